"""Drawn batches of edits, right ones and wrong ones."""

from changing import other_external
from metorshut.mutating import mutants_of
from metorshut.programs import declared

NAMES = ("new", "other", "main", "g0", "g1", "box", "e0", "e1", "a0", "v0")


class Editing:
    def __init__(self, dice):
        self.dice = dice

    def batch(self, program):
        return tuple(self.edit(program) for _ in range(self.dice.choice((1, 1, 1, 2, 2, 3))))

    def edit(self, program):
        dice = self.dice
        if not program:
            return ("drop", "g0")
        one = dice.choice(program)
        chosen = dice.randrange(100)
        if chosen < 10:
            return ("drop", dice.choice([one[1], *NAMES]))
        if chosen < 22:
            return ("name", one[1], dice.choice(NAMES))
        if chosen < 27:
            return ("put", one)
        return ("put", self.other(program, one))

    def other(self, program, one):
        """Another declaration, mostly in the place of this one."""
        dice = self.dice
        if one[0] == "record":
            return (*one[:2], (*one[2], ("more", dice.choice((1, 2, "box")))))
        if one[0] == "external":
            return other_external(dice, one)
        chosen = dice.randrange(10)
        if chosen == 0:
            return (*one[:4], 1 - one[4], *one[5:])
        if chosen == 1:
            return (one[0], dice.choice(NAMES), *one[2:])
        if chosen == 2:
            return (*one[:6], ((("assert", ("word", 1, 1)),) + one[6]))
        if chosen == 3:
            called = dice.choice([other for other in program if other[0] == "function"])
            args = tuple(("word", 0, kind) if isinstance(kind, int) else ("null",) for _, kind in called[2])
            return (*one[:6], (("if", ("word", dice.randrange(2), 1), (("call", None, called[1], args),), ()), *one[6]))
        mutants = mutants_of(program, one[1])
        return dice.choice(mutants) if mutants else one


def plainly_done(program, batch):
    """The program behind a batch without checks, or the name of the error; by lists."""
    rows = list(program)
    for edit in batch:
        names = [row[1] for row in rows]
        if edit[0] == "put":
            if edit[1][1] in names:
                rows[names.index(edit[1][1])] = edit[1]
            else:
                rows.append(edit[1])
            continue
        if edit[1] not in names:
            return ("Unknown", edit[1])
        if edit[0] == "drop":
            del rows[names.index(edit[1])]
            continue
        if edit[2] in names:
            return ("Twice", edit[2])
        rows = [plainly_renamed(row, *edit[1:]) for row in rows]
    return tuple(rows)


def plainly_renamed(row, old, new):
    """A declaration with another name in the places of names: by the text, as names of variables never are such."""
    def name(given):
        return new if given == old else given

    def statement(one):
        if one[0] == "make":
            return (*one[:2], name(one[2]))
        if one[0] == "call":
            return (*one[:2], name(one[2]), one[3])
        if one[0] in ("if", "while"):
            return (*one[:2], *[tuple(map(statement, block)) for block in one[2:]])
        if one[0] == "try":
            caught = tuple((word, tuple(map(statement, block))) for word, block in one[2])
            return ("try", tuple(map(statement, one[1])), caught)
        return one

    def places(rows):
        return tuple((place[0], name(place[1]), *place[2:]) for place in rows)

    word, own, params, *rest = row
    if word == "function":
        kind, entry, variables, body = rest
        rest = (name(kind), entry, places(variables), tuple(map(statement, body)))
    return (word, name(own), places(params), *rest)


def is_entry(program, name):
    one = declared(program, name)
    return one is not None and one[0] == "function" and one[4] == 1
