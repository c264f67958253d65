"""Papers for questions without a model (points 26 and 27)."""

from metorshut.columns import PAGE_BITS, bit_column, full_column, page_count
from metorshut.nodeparts import cone_of
from metorshut.readings import read_columns
from metorshut.tables import both, is_empty

# A paper with at most so many clashes is taken at once; no other one is looked for.
SHORT = 8


def paper_against(rows, conditions, masks):
    """A right paper; masks tell for which inputs each condition holds, and no input is in all of them."""
    core = core_of(masks)
    cone = cone_of(rows, [conditions[at] for at in core])
    inputs = [(rows[at][2], rows[at][1]) for at in cone if rows[at][0] == "input"]
    best = None
    for order in _orders(inputs):
        splits = Splits(rows, cone, [(at, conditions[at]) for at in core], order)
        if best is None or splits.size < best.size:
            best = splits
        if best.size <= SHORT:
            break
    return best.paper_at(0, 0)


def core_of(masks):
    """The numbers of some masks that have nothing in common, and none of which can be left out."""
    behind = [masks[-1]]
    for mask in reversed(masks[:-1]):
        behind.append(both(mask, behind[-1]))
    core = []
    ahead = None
    for at, mask in enumerate(masks):
        others = [] if ahead is None else [ahead]
        if at + 1 < len(masks):
            others.append(behind[-2 - at])
        if not others or not is_empty(_common(others)):
            core.append(at)
            ahead = mask if ahead is None else both(ahead, mask)
    return core


def _common(masks):
    found = masks[0]
    for mask in masks[1:]:
        found = both(found, mask)
    return found


def _orders(inputs):
    """Orders in which the bits of inputs, pairs (number, width), can be split."""
    inputs = sorted(inputs)
    places = [(number, bit) for number, width in inputs for bit in range(width)]
    highest = [(-bit, number) for number, bit in places]
    lowest = [(bit, number) for number, bit in places]
    return (
        [(number, -bit) for bit, number in sorted(highest)],
        [(number, bit) for bit, number in sorted(lowest)],
        places,
    )


class Splits:
    """What clashes when bits are split in an order.

    Cube number k of level d knows the first d bits of the order: they are the
    lowest d bits of k.
    """

    def __init__(self, rows, cone, core, order):
        self.rows = rows
        self.cone = cone
        self.core = core
        self.order = order
        # For each level and page the pairs of a condition's number and the column of the cubes in which it clashes.
        self.levels = []
        self.size = 0
        self.split_on()

    def split_on(self):
        """Add levels until all cubes clash."""
        left = [1]
        while any(left):
            bits = len(self.levels)
            level = [self.clashes_on(bits, page) for page in range(page_count(bits))]
            self.levels.append(level)
            still = []
            for column, clashes in zip(left, level):
                for _, clash in clashes:
                    column &= ~clash
                still.append(column)
            self.size += _many_bits(left) - _many_bits(still)
            if bits < PAGE_BITS:
                left = [column | column << (1 << bits) for column in still]
            else:
                left = still + still

    def clashes_on(self, bits, page):
        """The clashes of a level on a page."""
        full = full_column(bits)
        inputs = {}
        for number, bit in self.order:
            known, worths = inputs.setdefault(number, ([], []))
            known.extend([0] * (bit + 1 - len(known)))
            worths.extend([0] * (bit + 1 - len(worths)))
        for at in range(bits):
            number, bit = self.order[at]
            known, worths = inputs[number]
            known[bit] = full
            worths[bit] = bit_column(bits, page, at)
        read = read_columns(self.rows, self.cone, inputs, full)
        found = []
        for at, term in self.core:
            known, worths = read[term]
            found.append((at, known[0] & ~worths[0]))
        return found

    def paper_at(self, level, index):
        """The paper for a cube."""
        place = index & ((1 << PAGE_BITS) - 1)
        for at, clash in self.levels[level][index >> PAGE_BITS]:
            if clash >> place & 1:
                return "clash", at
        number, bit = self.order[level]
        zero = self.paper_at(level + 1, index)
        one = self.paper_at(level + 1, index | 1 << level)
        return "split", number, bit, zero, one


def _many_bits(columns):
    return sum([f"{column:b}".count("1") for column in columns])
