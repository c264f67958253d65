"""Facts about rows of words (point 51)."""

from metorshut.evaluation import Words


def facts_of(names, rows):
    """The facts of rows, with a word for each of the names; there is at least one row."""
    found = []
    for at, (name, width) in enumerate(names):
        found.extend(_facts_of_one(("name", name), width, [row[at] for row in rows]))
    for at, (name, width) in enumerate(names):
        for other_at in range(at + 1, len(names)):
            other, other_width = names[other_at]
            if other_width == width:
                pairs = [(row[at], row[other_at]) for row in rows]
                found.extend(_facts_of_two(("name", name), ("name", other), pairs))
    return tuple(found)


def _facts_of_one(place, width, words):
    first = words[0]
    known = (1 << width) - 1
    for word in words:
        known &= ~(word ^ first)
    bits = ("==", ("&", place, ("word", known, width)), ("word", first & known, width))
    return [bits, ("<=", ("word", min(words), width), place), ("<=", place, ("word", max(words), width))]


def _facts_of_two(place, other, pairs):
    less = any([one < two for one, two in pairs])
    equal = any([one == two for one, two in pairs])
    greater = any([one > two for one, two in pairs])
    told = [
        (("==", place, other), not less and not greater),
        (("!=", place, other), not equal),
        (("<", place, other), not equal and not greater),
        (("<=", place, other), not greater),
        (("<", other, place), not equal and not less),
        (("<=", other, place), not less),
    ]
    return [fact for fact, is_so in told if is_so]


def holds(names, row, fact):
    """Whether a fact holds for a row."""
    cells = {name: (width, word) for (name, width), word in zip(names, row)}
    return Words().worth(fact, cells, ())[1] == 1
