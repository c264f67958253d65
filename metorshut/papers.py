"""Judging papers (points 2, 26 and 27)."""

from metorshut.columns import PAGE_BITS
from metorshut.forms import form_of
from metorshut.nodeparts import cone_of
from metorshut.readings import read_columns


def judge_paper(question, paper):
    """Whether a paper shows that a question has no model."""
    widths, rows, conditions = question
    clashes = []
    waiting = [((), paper)]
    while waiting:
        known, part = waiting.pop()
        if part[0] == "split":
            _, number, bit, zero, one = part
            if not _can_split(widths, known, number, bit):
                return False
            waiting.append(((*known, (number, bit, 1)), one))
            waiting.append(((*known, (number, bit, 0)), zero))
        elif part[0] == "sums":
            if not _are_right_sums(rows, conditions, part[1]):
                return False
        elif 0 <= part[1] < len(conditions):
            clashes.append((known, conditions[part[1]]))
        else:
            return False
    return _all_clash(rows, clashes)


def _can_split(widths, known, number, bit):
    if not 0 <= number < len(widths) or not 0 <= bit < widths[number]:
        return False
    return all([(number, bit) != (other, place) for other, place, _ in known])


def _all_clash(rows, clashes):
    """Whether each term is read as known 0 in the cube of the known bits beside it."""
    at_once = 1 << PAGE_BITS
    for first in range(0, len(clashes), at_once):
        if not _page_clashes(rows, clashes[first:first + at_once]):
            return False
    return True


def _page_clashes(rows, clashes):
    """The same for so many that one page has room for them."""
    inputs = {}
    wanted = {}
    for at, (known, term) in enumerate(clashes):
        wanted[term] = wanted.get(term, 0) | 1 << at
        for number, bit, worth in known:
            columns, worths = inputs.setdefault(number, ([], []))
            gap = [0] * (bit + 1 - len(columns))
            columns.extend(gap)
            worths.extend(gap)
            columns[bit] |= 1 << at
            worths[bit] |= worth << at
    read = read_columns(rows, cone_of(rows, list(wanted)), inputs, (1 << len(clashes)) - 1)
    for term, column in wanted.items():
        known, worths = read[term]
        if column & ~(known[0] & ~worths[0]):
            return False
    return True


def _are_right_sums(rows, conditions, parts):
    """Whether so many times these equal terms make a sum that cannot hold."""
    factors = {}
    constant = 0
    width = None
    last = -1
    for at, many in parts:
        if not last < at < len(conditions):
            return False
        last = at
        found = _difference(rows, rows[conditions[at]])
        if found is None or width not in (None, found[0]):
            return False
        width, own_factors, own_constant = found
        for number, factor in own_factors:
            factors[number] = factors.get(number, 0) + many * factor
        constant += many * own_constant
    if width is None:
        return False
    top = (1 << width) - 1
    return constant & top != 0 and all([factor & top == 0 for factor in factors.values()])


def _difference(rows, node):
    """The width of two equal linear terms, and the form of the left one less the right one; None if there are none.

    A factor can stand there twice.
    """
    if node[0] != "==":
        return None
    _, _, left, right = node
    form, other = form_of(rows, left), form_of(rows, right)
    if form is None or other is None:
        return None
    turned = [(number, -factor) for number, factor in other[0]]
    return rows[left][1], list(form[0]) + turned, form[1] - other[1]
