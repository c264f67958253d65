"""Systems of sums modulo powers of 2 (points 2 and 28)."""


def solve_sums(width, many, rows):
    """The least solution for so many inputs, or multipliers that bar the rows."""
    stairs, spent = _stairs(width, many, rows)
    bar = _bar_among(many, spent)
    if bar is not None:
        return "bar", bar
    words = []
    for at in range(many):
        words.append(_least_word(width, many, stairs[at], words) if at in stairs else 0)
    return "solution", tuple(words)


def many_solutions(width, many, rows):
    """The number of solutions."""
    stairs, spent = _stairs(width, many, rows)
    if _bar_among(many, spent) is not None:
        return 0
    found = 1
    for at in range(many):
        # The own factor of a stair is a power of 2, and so many words are alike to it.
        found *= stairs[at][at] if at in stairs else 1 << width
    return found


def judge_multipliers(width, many, rows, multipliers):
    """Whether multipliers bar the rows."""
    top = (1 << width) - 1
    if len(multipliers) != len(rows) or not all([0 <= one <= top for one in multipliers]):
        return False
    for at in range(many):
        if sum([one * factors[at] for one, (factors, _) in zip(multipliers, rows)]) & top != 0:
            return False
    return sum([one * constant for one, (_, constant) in zip(multipliers, rows)]) & top != 0


def _stairs(width, many, rows):
    """A dict of stairs, and the rows that are left, which have no factors.

    A row is here a list of its factors, its constant, and how many times each
    of the given rows is in it. The stair of an input has a power of 2 as its
    own factor and none for inputs behind it. Whatever words fit the stairs of
    the inputs ahead, there is a word of this one with which they fit its own.
    """
    left = []
    for at, (factors, constant) in enumerate(rows):
        times = [0] * len(rows)
        times[at] = 1
        left.append([*factors, constant, *times])
    stairs = {}
    for column in range(many - 1, -1, -1):
        at = _steepest(left, column)
        if at is not None:
            stair = _times(width, left[at], _inverse(width, left[at][column]))
            step = stair[column]
            stairs[column] = stair
            left = [_less(width, row, stair, row[column] // step) for row in left[:at] + left[at + 1:]]
            # So many times a stair is without its own factor, and still binds the inputs ahead.
            left.append(_times(width, stair, (1 << width) // step))
    return stairs, left


def _steepest(rows, column):
    """The place of a row whose factor is an odd number times the least power of 2; None if all factors are 0."""
    best = None
    least = 0
    for at, row in enumerate(rows):
        power = row[column] & -row[column]
        if power != 0 and (best is None or power < least):
            best, least = at, power
    return best


def _inverse(width, factor):
    """A number whose product with the factor is a power of 2."""
    odd = factor // (factor & -factor)
    found = 1
    for _ in range(width):
        # Each time twice as many of the lowest bits are right.
        found = found * (2 - odd * found) & ((1 << width) - 1)
    return found


def _times(width, row, many):
    return [part * many & ((1 << width) - 1) for part in row]


def _less(width, row, other, many):
    return [part - many * taken & ((1 << width) - 1) for part, taken in zip(row, other)]


def _bar_among(many, rows):
    for row in rows:
        if row[many] != 0:
            return tuple(row[many + 1:])
    return None


def _least_word(width, many, stair, words):
    """The least word that fits a stair behind these words."""
    rest = stair[many] - sum([factor * word for factor, word in zip(stair, words)])
    return (rest & ((1 << width) - 1)) // stair[len(words)]
