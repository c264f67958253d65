"""The variables that an expr can name (points 8 and 9)."""

NULL = "null"
BARRED_OUTSIDE = ("null", "div", "rem")


class Scope:
    """The kinds of variables, the widths of arrays, the fields of records, and the words that are barred."""

    def __init__(self, fields, barred):
        self.fields = fields
        self.barred = barred
        self.kinds = {}
        self.arrays = {}


def fields_of(program):
    """For each record its fields' kinds."""
    return {one[1]: _kinds_of(one[2]) for one in program if one[0] == "record"}


def _kinds_of(fields):
    kinds = {}
    for name, kind in fields:
        # Of two fields of one name the first one counts.
        kinds.setdefault(name, kind)
    return kinds


def scope_of(fields, function):
    """The scope of a function's body."""
    scope = Scope(fields, ())
    for name, kind in function[2]:
        scope.kinds[name] = kind
    for place in function[5]:
        if len(place) == 3:
            scope.arrays[place[0]] = place[1]
        else:
            scope.kinds[place[0]] = place[1]
    return scope


def outer_scope(external):
    """The scope of an external's needs."""
    scope = Scope({}, BARRED_OUTSIDE)
    for name, kind in external[2]:
        scope.kinds[name] = kind
    return scope
