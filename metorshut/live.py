"""The live rows of graphs, and which ways are behind which (point 19)."""


def live_rows(graph):
    """The numbers of the live rows, ascending."""
    return tuple(sorted(_reached(_targets_of(graph[1]), None)))


def behind(graph):
    """All pairs of live ways such that the first one is behind the second one, ascending."""
    rows = graph[1]
    targets = _targets_of(rows)
    live = [at for at in sorted(_reached(targets, None)) if rows[at][0] == "look"]
    pairs = []
    for at in live:
        for bit in (0, 1):
            reached = _reached(targets, (at, bit))
            barred = [rows[other][1] for other in live if other not in reached]
            pairs.extend([((number, way), (rows[at][1], bit)) for number in barred for way in (0, 1)])
    return tuple(sorted(pairs))


def _targets_of(rows):
    """For each row the pairs of a bit and a row to which it leads; the bit is None but for looks."""
    return [_targets(row) for row in rows]


def _targets(row):
    word = row[0]
    if word == "look":
        return [(bit, target) for bit, target in ((1, row[3]), (0, row[4])) if isinstance(target, int)]
    if word == "call":
        return [(None, row[4])] + [(None, target) for _, target in row[5]]
    if word == "ask":
        return [(None, target) for target in (row[4], row[5]) if isinstance(target, int)]
    if word in ("return", "raise"):
        return []
    return [(None, row[-1])]


def _reached(targets, barred):
    """The dict of the rows reached from row 0 without a barred way, a pair (row, bit)."""
    reached = {0: True}
    waiting = [0]
    while waiting:
        at = waiting.pop()
        for bit, target in targets[at]:
            if target not in reached and (at, bit) != barred:
                reached[target] = True
                waiting.append(target)
    return reached
