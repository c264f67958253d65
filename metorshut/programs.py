"""Looking things up in programs (point 7)."""


def entries_of(program):
    """The names of the entries, in order."""
    return tuple([one[1] for one in program if one[0] == "function" and one[4] == 1])


def declared(program, name):
    """The declaration of this name; None if there is none."""
    for one in program:
        if one[1] == name:
            return one
    return None


def with_declaration(program, declaration):
    """The program with a declaration in the place of the one of its name."""
    return tuple([declaration if one[1] == declaration[1] else one for one in program])
