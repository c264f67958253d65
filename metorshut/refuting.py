"""Papers for questions without a model (points 26 and 27)."""

from metorshut.columns import PAGE_BITS, bit_column, column_from, full_column, page_count
from metorshut.nodeparts import cone_of
from metorshut.readings import read_columns
from metorshut.tables import both, is_empty

# A paper with at most so many clashes is taken at once; no other one is looked for.
SHORT = 8


def paper_against(rows, conditions, masks):
    """A right paper; masks tell for which inputs each condition holds, and no input is in all of them."""
    core = core_of(masks)
    cone = cone_of(rows, [conditions[at] for at in core])
    inputs = [(rows[at][2], rows[at][1]) for at in cone if rows[at][0] == "input"]
    found = []
    for order in _orders(inputs):
        size, paper = Splits(rows, cone, [(at, conditions[at]) for at in core], order).paper_at(0, 1)
        if size <= SHORT:
            return paper
        found.append((size, len(found), paper))
    _, _, best = min(found)
    return best


def core_of(masks):
    """The numbers of some masks that have nothing in common, and none of which can be left out."""
    behind = [masks[-1]]
    for mask in reversed(masks[:-1]):
        behind.append(both(mask, behind[-1]))
    core = []
    ahead = None
    for at, mask in enumerate(masks):
        others = [] if ahead is None else [ahead]
        if at + 1 < len(masks):
            others.append(behind[-2 - at])
        if not others or not is_empty(_common(others)):
            core.append(at)
            ahead = mask if ahead is None else both(ahead, mask)
    return core


def _common(masks):
    found = masks[0]
    for mask in masks[1:]:
        found = both(found, mask)
    return found


def _orders(inputs):
    """Orders in which the bits of inputs, pairs (number, width), can be split."""
    inputs = sorted(inputs)
    places = [(number, bit) for number, width in inputs for bit in range(width)]
    highest = [(-bit, number) for number, bit in places]
    lowest = [(bit, number) for number, bit in places]
    return (
        [(number, -bit) for bit, number in sorted(highest)],
        [(number, bit) for bit, number in sorted(lowest)],
        places,
    )


class Splits:
    """What clashes when bits are split in an order.

    Cubes are numbered: 1 knows nothing, and the cube that knows the first d
    bits of the order is 2 ^ d and these bits, the first one as bit 0.
    """

    def __init__(self, rows, cone, core, order):
        self.rows = rows
        self.cone = cone
        # Pairs of a condition's number and its term.
        self.core = core
        self.order = order
        self.pages = [self.clashes_on(page) for page in range(page_count(len(order) + 1))]

    def clashes_on(self, page):
        """For each condition of the core a pair of its number and the column of the cubes in which it clashes."""
        bits = len(self.order) + 1
        full = full_column(bits)
        inputs = {}
        for at, (number, bit) in enumerate(self.order):
            known, worths = inputs.setdefault(number, ([], []))
            gap = [0] * (bit + 1 - len(known))
            known.extend(gap)
            worths.extend(gap)
            known[bit] = column_from(bits, page, 2 << at)
            worths[bit] = known[bit] & bit_column(bits, page, at)
        read = read_columns(self.rows, self.cone, inputs, full)
        found = []
        for at, term in self.core:
            known, worths = read[term]
            found.append((at, known[0] & ~worths[0]))
        return found

    def paper_at(self, level, cube):
        """A pair: the number of clashes in the paper for a cube of which so many bits are known, and the paper."""
        place = cube & ((1 << PAGE_BITS) - 1)
        for at, clash in self.pages[cube >> PAGE_BITS]:
            if clash >> place & 1:
                return 1, ("clash", at)
        number, bit = self.order[level]
        many, zero = self.paper_at(level + 1, cube + (1 << level))
        more, one = self.paper_at(level + 1, cube + (2 << level))
        return many + more, ("split", number, bit, zero, one)
