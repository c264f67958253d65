"""What is right, changed at one place: the shape stays as it is told."""

OPS = ("not", "neg", "wide", "+", "-", "*", "&", "|", "^", "<<", ">>", "div", "rem", "==", "!=", "<", "<=", "pick")
OUTCOMES = ("raises", "cut")
NODES = ("word", "input") + OPS
PAIRS = ("look", "loop")


def places_in(whole, at=()):
    """The ways to all parts of a tuple, and to what is in them."""
    found = []
    for number, part in enumerate(whole):
        found.append((*at, number))
        if isinstance(part, tuple):
            found += places_in(part, (*at, number))
    return found


def part_at(whole, at):
    for number in at:
        whole = whole[number]
    return whole


def with_part(whole, at, part):
    if not at:
        return part
    return (*whole[:at[0]], with_part(whole[at[0]], at[1:], part), *whole[at[0] + 1:])


def changed_number(dice, number):
    return dice.choice([one for one in (number + 1, number - 1, 0, 1, -1, 5, 1000000, -1000000) if one != number])


def changed_word(dice, word):
    """Another first word of the same shape, or another name; None if there is none."""
    for words in (OUTCOMES, PAIRS, NODES):
        if word in words:
            return dice.choice([one for one in words if one != word])
    if word in ("book", "end", "ask", "shut", "split", "clash", "sums", "returns", "endless"):
        return None
    return dice.choice(("other", "zero", "steps", "g0"))


def changed_part(dice, part):
    """Another thing of the same shape; None if there is none."""
    if isinstance(part, int):
        return changed_number(dice, part)
    if isinstance(part, str):
        return changed_word(dice, part)
    first = part[0] if part else None
    if first in PAIRS:
        return (*part[:3], part[4], part[3])
    if first == "split":
        return (*part[:3], part[4], part[3])
    if first in ("book", "end", "ask", "shut", "clash", "sums", "returns", "raises", "cut", "endless"):
        return None
    if isinstance(first, str) and first not in NODES and len(part) == 2 and isinstance(part[1], int):
        return None
    if len(part) == 2 and isinstance(first, int):
        # It can be a pair of sums.
        return part[::-1]
    return changed_row(dice, part)


def changed_row(dice, part):
    """A tuple of any length with a part less or twice, or with two parts exchanged."""
    if not part:
        return None
    at = dice.randrange(1 if part[0] in NODES else 0, len(part)) if len(part) > 1 else 0
    if part[0] in NODES and at == 0:
        return (*part, 0)
    chosen = dice.randrange(3)
    if chosen == 0:
        return (*part[:at], *part[at + 1:])
    if chosen == 1:
        return (*part[:at], part[at], *part[at:])
    row = list(part)
    other = dice.randrange(1 if part[0] in NODES else 0, len(part))
    row[at], row[other] = row[other], row[at]
    return tuple(row)


def spoilt(dice, whole):
    """What is right with a change at one place; it can be right still."""
    for _ in range(50):
        at = dice.choice(places_in(whole))
        part = changed_part(dice, part_at(whole, at))
        if part is not None:
            return with_part(whole, at, part)
    return whole
