"""Covers of sets, bars against small ones, and greedy rows (points 2 and 39)."""


def fewest(sets):
    """The fewest cover; of several the least one."""
    masks = _masks_of(sets)
    behind = [0]
    for mask in reversed(masks):
        behind = [behind[0] | mask] + behind
    size = 0
    found = _cover_from(masks, behind, 0, 0, size)
    while found is None:
        size += 1
        found = _cover_from(masks, behind, 0, 0, size)
    return found


def _masks_of(sets):
    """For each set an integer with a 1 as the bit of each of its numbers."""
    masks = []
    for one in sets:
        mask = 0
        for number in one:
            mask |= 1 << number
        masks.append(mask)
    return masks


def _cover_from(masks, behind, first, have, left):
    """The least so many sets from the first one on that have, with what is there, all numbers; None if none have.

    Behind tells for each set which numbers it and those behind it have.
    """
    if left == 0:
        return () if have == behind[0] else None
    for at in range(first, len(masks)):
        if have | behind[at] != behind[0]:
            return None
        # A set with nothing new does not stand in a cover of the least length.
        if masks[at] & ~have:
            found = _cover_from(masks, behind, at + 1, have | masks[at], left - 1)
            if found is not None:
                return (at, *found)
    return None


def bar_of(sets, size):
    """A right bar for the size; None if there is none."""
    if len(fewest(sets)) <= size:
        return None
    return Bars(sets).bar(0, size)


def _holders_of(sets):
    """For each number the sets that have it, ascending."""
    holders = {}
    for at, one in enumerate(sets):
        for number in one:
            holders.setdefault(number, []).append(at)
    return holders


class Bars:
    """Makes bars of sets."""

    def __init__(self, sets):
        self.masks = _masks_of(sets)
        self.holders = _holders_of(sets)
        # Pairs of how many sets have a number, and the number: so bars have few branches.
        self.order = sorted([(len(having), number) for number, having in self.holders.items()])
        self.made = {}

    def bar(self, have, left):
        """The bar for so many more sets, where the taken ones have these numbers, and no cover is that small."""
        if (have, left) not in self.made:
            number = self.first_without(have)
            if left == 0:
                found = ("left", number)
            else:
                branches = [(at, self.bar(have | self.masks[at], left - 1)) for at in self.holders[number]]
                found = ("each", number, tuple(branches))
            self.made[have, left] = found
        return self.made[have, left]

    def first_without(self, have):
        """The first number in the order that no taken set has."""
        for _, number in self.order:
            if not have >> number & 1:
                return number
        return None


def judge_bar(sets, size, bar):
    """Whether a bar is right for a size."""
    holders = _holders_of(sets)
    waiting = [(bar, size, ())]
    while waiting:
        part, left, taken = waiting.pop()
        having = holders.get(part[1], [])
        if not having or any([at in having for at in taken]):
            return False
        if part[0] == "left":
            if left != 0:
                return False
        elif left == 0 or [at for at, _ in part[2]] != having:
            return False
        else:
            waiting.extend([(inner, left - 1, (*taken, at)) for at, inner in part[2]])
    return True


def greedy(sets):
    """The greedy row."""
    masks = _masks_of(sets)
    wanted = 0
    for mask in masks:
        wanted |= mask
    found = []
    while wanted:
        best, most = 0, -1
        for at, mask in enumerate(masks):
            many = _count_bits(mask & wanted)
            if many > most:
                best, most = at, many
        found.append(best)
        wanted &= ~masks[best]
    return tuple(found)


def _count_bits(mask):
    many = 0
    while mask:
        mask &= mask - 1
        many += 1
    return many
