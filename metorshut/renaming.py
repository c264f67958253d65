"""Giving a declaration another name, in all its uses (points 7 and 45)."""


def renamed(declaration, old, new):
    """A declaration in which a name of a declaration is another one; variables, fields and raised names stay."""
    word, name = declaration[:2]
    name = new if name == old else name
    kinded = _renamed_kinds(declaration[2], old, new)
    if word == "record":
        return word, name, kinded
    if word == "external":
        return (word, name, kinded) + declaration[3:]
    _, _, _, kind, entry, places, body = declaration
    kind = new if kind == old else kind
    return word, name, kinded, kind, entry, _renamed_kinds(places, old, new), _renamed_body(body, old, new)


def _renamed_kinds(places, old, new):
    """Places with the name changed in the kinds; arrays have none."""
    return tuple([(place[0], new) if place[1] == old else place for place in places])


def _renamed_body(body, old, new):
    return tuple([_renamed_statement(statement, old, new) for statement in body])


def _renamed_statement(statement, old, new):
    word = statement[0]
    if word in ("make", "call"):
        return statement[:2] + (new,) + statement[3:] if statement[2] == old else statement
    if word in ("if", "while"):
        return statement[:2] + tuple([_renamed_body(block, old, new) for block in statement[2:]])
    if word == "try":
        _, block, catches = statement
        caught = tuple([(name, _renamed_body(body, old, new)) for name, body in catches])
        return word, _renamed_body(block, old, new), caught
    return statement
