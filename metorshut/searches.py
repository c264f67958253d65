"""The orders in which a search finds the leaves of a book (points 31, 32 and 40)."""

from metorshut.leaves import leaves_of


def searched(program, book, order):
    """The leaves of a taken book in an order: "deep", "wide" or "new"."""
    leaves = leaves_of(program, book)
    if order == "deep":
        return leaves
    if order == "wide":
        ranks = sorted([(len(leaf[1]), at) for at, leaf in enumerate(leaves)])
        return tuple([leaves[at] for _, at in ranks])
    return tuple([leaves[at] for at in _newest_first([leaf[1] for leaf in leaves])])


def _newest_first(rows):
    """The numbers of rows of ways: each next one has the most ways that none ahead of it has."""
    counts = [len(set(ways)) for ways in rows]
    holders = {}
    for at, ways in enumerate(rows):
        for way in sorted(set(ways)):
            holders.setdefault(way, []).append(at)
    left = {at: True for at in range(len(rows))}
    found = []
    while left:
        best = None
        for at in left:
            if best is None or counts[at] > counts[best]:
                best = at
        found.append(best)
        del left[best]
        for way in rows[best]:
            for at in holders.pop(way, ()):
                counts[at] -= 1
    return found
