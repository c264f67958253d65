"""Terms read in many cubes side by side (point 26).

What is read is a pair (known, bits) of lists of columns, one for each bit of
the width; a bit is 0 where it is not known.
"""

from metorshut.columns import chosen, divided, fitted, inverted, less, multiplied, shifted, some_column, word_columns
from metorshut.nodeparts import operands_of


def read_columns(rows, cone, inputs, full):
    """For each node of a cone what is read of it.

    Inputs is a dict with what is known of each of them; nothing is known of those that it has not.
    """
    found = {}
    for at in cone:
        node = rows[at]
        op, width = node[0], node[1]
        if op == "word":
            found[at] = ([full] * width, word_columns(width, node[2], full))
        elif op == "input":
            known, bits = inputs.get(node[2], ([], []))
            found[at] = (fitted(known, width), fitted(bits, width))
        else:
            found[at] = _read(op, width, [found[term] for term in operands_of(node)], full)
    return found


def _read(op, width, pairs, full):
    if len(pairs) == 1:
        return _read_one(op, width, pairs[0], full)
    if op == "pick":
        return _read_pick(pairs, full)
    left, right = pairs
    if op == "+":
        return _read_sum(left, right, (0, 0), full)
    if op == "-":
        return _read_sum(left, _turned(right), (0, full), full)
    if op == "*":
        return _read_product(left, right, full)
    if op in ("<<", ">>"):
        return _read_shift(op, left, right, full)
    if op in ("div", "rem"):
        whole = _whole(left, full) & _whole(right, full)
        return [whole] * width, [bit & whole for bit in divided(op, left[1], right[1], full)]
    if op in ("&", "|", "^"):
        return _read_bits(op, left, right)
    if op in ("==", "!="):
        return _read_equal(op, left, right, full)
    return _read_less(op, left, right, full)


def _whole(pair, full):
    """The column of the cubes in which all bits are known."""
    found = full
    for known in pair[0]:
        found &= known
    return found


def _nought(pair, full):
    """The column of the cubes in which it is whole and 0."""
    return _whole(pair, full) & ~some_column(pair[1])


def _turned(pair):
    known, bits = pair
    return known, [column & ~bit for column, bit in zip(known, bits)]


def _read_one(op, width, pair, full):
    if op == "not":
        return _turned(pair)
    if op == "neg":
        return _read_sum(([full] * width, [0] * width), _turned(pair), (0, full), full)
    known, bits = pair
    # Bits that come in are known.
    return inverted(fitted(inverted(known, full), width), full), fitted(bits, width)


def _read_sum(left, right, carry, full):
    """A sum with a carry, which is told by the columns of where it is not known, and where it is 1."""
    unsure, ones = carry
    found_known = []
    found_bits = []
    for (known, bit), (other_known, other) in zip(_bits_of(left), _bits_of(right)):
        sure = known & other_known & ~unsure
        found_known.append(sure)
        found_bits.append((bit ^ other ^ ones) & sure)
        noughts = full & ~unsure & ~ones
        zero, other_zero = known & ~bit, other_known & ~other
        noughts = zero & other_zero | noughts & (zero | other_zero)
        ones = bit & other | ones & (bit | other)
        unsure = full & ~noughts & ~ones
    return found_known, found_bits


def _bits_of(pair):
    known, bits = pair
    return list(zip(known, bits))


def _read_product(left, right, full):
    noughts = _nought(left, full) | _nought(right, full)
    sure = full
    known = []
    for one, other in zip(left[0], right[0]):
        sure &= one & other
        known.append(sure | noughts)
    return known, [column & bit for column, bit in zip(known, multiplied(left[1], right[1]))]


def _read_shift(op, left, right, full):
    whole = _whole(right, full)
    noughts = _nought(left, full)
    # Where bits come in, none is unknown.
    unknown = shifted(op, inverted(left[0], full), right[1])
    known = [whole & ~column | noughts for column in unknown]
    return known, [whole & bit for bit in shifted(op, left[1], right[1])]


def _read_bits(op, left, right):
    found_known = []
    found_bits = []
    for (known, bit), (other_known, other) in zip(_bits_of(left), _bits_of(right)):
        both = known & other_known
        if op == "&":
            found_known.append(both | known & ~bit | other_known & ~other)
            found_bits.append(bit & other)
        elif op == "|":
            found_known.append(both | bit | other)
            found_bits.append(bit | other)
        else:
            found_known.append(both)
            found_bits.append((bit ^ other) & both)
    return found_known, found_bits


def _read_equal(op, left, right, full):
    both = [one & other for one, other in zip(left[0], right[0])]
    differ = some_column([column & (one ^ other) for column, one, other in zip(both, left[1], right[1])])
    same = _whole(left, full) & _whole(right, full) & ~differ
    return [differ | same], [same if op == "==" else differ]


def _read_less(op, left, right, full):
    if op == "<":
        sure = less(_greatest(left, full), right[1], full)
        never = full ^ less(left[1], _greatest(right, full), full)
    else:
        sure = full ^ less(right[1], _greatest(left, full), full)
        never = less(_greatest(right, full), left[1], full)
    return [sure | never], [sure]


def _greatest(pair, full):
    known, bits = pair
    return [bit | full & ~column for column, bit in zip(known, bits)]


def _read_pick(pairs, full):
    (known, bits), left, right = pairs
    sure, choice = known[0], bits[0]
    both = [one & other for one, other in zip(left[0], right[0])]
    alike = [column & ~(one ^ other) for column, one, other in zip(both, left[1], right[1])]
    found_known = chosen(sure, chosen(choice, left[0], right[0]), alike)
    found_bits = chosen(choice, left[1], right[1])
    return found_known, [column & bit for column, bit in zip(found_known, found_bits)]
