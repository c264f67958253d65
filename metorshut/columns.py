"""Words told for many cases side by side.

A column is an integer whose bit k tells about case number k. A word of width w
is told by a list of w columns, its lowest bit first. Cases are numbered over
several pages, so that no integer becomes very large.
"""

PAGE_BITS = 11


def page_count(bits):
    """The number of pages for the numbers of so many bits."""
    return 1 << max(0, bits - PAGE_BITS)


def full_column(bits):
    """The column of a page with a 1 for each case."""
    return (1 << (1 << min(bits, PAGE_BITS))) - 1


def bit_column(bits, page, at):
    """The column of bit number at of the numbers of the cases on a page."""
    full = full_column(bits)
    if at >= PAGE_BITS:
        return full if page >> (at - PAGE_BITS) & 1 else 0
    step = 1 << at
    column = ((1 << step) - 1) << step
    step *= 2
    while step < 1 << min(bits, PAGE_BITS):
        column |= column << step
        step *= 2
    return column


def column_from(bits, page, first):
    """The column of the numbers from a first one on."""
    full = full_column(bits)
    before = first - (page << PAGE_BITS)
    if before <= 0:
        return full
    return full & ~((1 << before) - 1) if before < full.bit_length() else 0


def word_columns(width, value, full):
    """The columns of a word that is the same in all cases."""
    return [full if value >> at & 1 else 0 for at in range(width)]


def fitted(columns, width):
    """The columns cut off, or with zeros put behind them, to a width."""
    return columns[:width] + [0] * (width - len(columns))


def inverted(columns, full):
    """The columns with each bit turned."""
    return [full ^ column for column in columns]


def chosen(choice, left, right):
    """The left columns where the choice is 1, the right ones elsewhere."""
    return [one & choice | other & ~choice for one, other in zip(left, right)]


def some_column(columns):
    """The column that is 1 where one of these is."""
    found = 0
    for column in columns:
        found |= column
    return found


def added(left, right, carry):
    """The sum of both, and of a carry."""
    found = []
    for one, other in zip(left, right):
        found.append(one ^ other ^ carry)
        carry = one & other | carry & (one ^ other)
    return found


def less(left, right, full):
    """The column that is 1 where the left word is less than the right one."""
    found = 0
    for one, other in zip(left, right):
        found = ~one & other | found & (full ^ one ^ other)
    return found


def differing(left, right):
    """The column that is 1 where both differ."""
    return some_column([one ^ other for one, other in zip(left, right)])


def multiplied(left, right):
    """The product of both."""
    width = len(left)
    found = [0] * width
    for at, bit in enumerate(right):
        found = added(found, [0] * at + [bit & column for column in left[:width - at]], 0)
    return found


def shifted(op, left, right):
    """The left words moved by the right ones."""
    width = len(left)
    found = left
    for at, bit in enumerate(right):
        by = min(1 << at, width)
        gap = [0] * by
        moved = gap + found[:width - by] if op == "<<" else found[by:] + gap
        found = chosen(bit, moved, found)
    return found


def divided(op, left, right, full):
    """The quotient or the remainder."""
    width = len(left)
    quotient = []
    rest = [0] * width
    for column in reversed(left):
        # One bit more than the width has room for twice the rest.
        rest = [column] + rest
        room = full ^ less(rest, right + [0], full)
        taken = [bit & room for bit in right] + [0]
        rest = added(rest, inverted(taken, full), full)[:width]
        quotient = [room] + quotient
    some = some_column(right)
    return [column & some for column in (quotient if op == "div" else rest)]


def reckoned(op, width, operands, full):
    """The columns of an operation whose result has this width."""
    left = operands[0]
    if op == "wide":
        return fitted(left, width)
    if op == "pick":
        return chosen(left[0], operands[1], operands[2])
    if op == "not":
        return inverted(left, full)
    if op == "neg":
        return added([0] * width, inverted(left, full), full)
    right = operands[1]
    if op == "+":
        return added(left, right, 0)
    if op == "-":
        return added(left, inverted(right, full), full)
    if op == "*":
        return multiplied(left, right)
    if op in ("<<", ">>"):
        return shifted(op, left, right)
    if op in ("div", "rem"):
        return divided(op, left, right, full)
    if op in ("&", "|", "^"):
        return _bit_by_bit(op, left, right)
    return [_related(op, left, right, full)]


def _bit_by_bit(op, left, right):
    if op == "&":
        return [one & other for one, other in zip(left, right)]
    if op == "|":
        return [one | other for one, other in zip(left, right)]
    return [one ^ other for one, other in zip(left, right)]


def _related(op, left, right, full):
    if op == "<":
        return less(left, right, full)
    if op == "<=":
        return full ^ less(right, left, full)
    differ = differing(left, right)
    return differ if op == "!=" else full ^ differ
