"""The operations on words (point 3)."""

RELATIONS = ("==", "!=", "<", "<=")


def is_word(value, width):
    """Whether a value is a word of this width; True and False are none."""
    return isinstance(value, int) and not isinstance(value, bool) and 0 <= value < 1 << width


def all_words(widths):
    """The list of all tuples with a word for each width, ascending."""
    rows = [()]
    for width in widths:
        rows = [(*row, word) for row in rows for word in range(1 << width)]
    return rows


def result(op, width, *words):
    """The word of an operation; the width is that of the left operand.

    Of `wide` and `pick` it is the width of the result.
    """
    if op == "pick":
        choice, left, right = words
        return left if choice == 1 else right
    if len(words) == 1:
        return _of_one(op, words[0]) & ((1 << width) - 1)
    left, right = words
    if op in RELATIONS:
        return 1 if _related(op, left, right) else 0
    return _of_two(op, width, left, right) & ((1 << width) - 1)


def _of_one(op, word):
    if op == "not":
        return ~word
    if op == "neg":
        return -word
    return word


def _related(op, left, right):
    if op == "==":
        return left == right
    if op == "!=":
        return left != right
    if op == "<":
        return left < right
    return left <= right


def _of_two(op, width, left, right):
    if op == "+":
        return left + right
    if op == "-":
        return left - right
    if op == "*":
        return left * right
    if op == "&":
        return left & right
    if op == "|":
        return left | right
    if op == "^":
        return left ^ right
    if op in ("div", "rem"):
        return _divided(op, left, right)
    if right >= width:
        return 0
    return left << right if op == "<<" else left >> right


def _divided(op, left, right):
    if right == 0:
        return 0
    return left // right if op == "div" else left % right
