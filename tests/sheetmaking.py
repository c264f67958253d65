"""Random sheets, made by the rules or put together without them."""

import random
from itertools import product

from metorshut.sheets import Sheet

TWO = ("+", "-", "*", "&", "|", "^", "div", "rem")
RELATIONS = ("==", "!=", "<", "<=")
SHIFTS = ("<<", ">>")


def random_node(dice, sheet, terms, widest=3):
    """A node whose operands are there, of widths that fit."""
    def of(width):
        fitting = [term for term in terms if sheet.rows[term][1] == width]
        if fitting and dice.random() < 0.8:
            return dice.choice(fitting)
        return sheet.word(width, dice.randrange(1 << width))

    op = dice.choice(TWO + RELATIONS + SHIFTS + ("not", "neg", "wide", "pick", "+", "-", "==", "not"))
    left = dice.choice(terms)
    width = sheet.rows[left][1]
    if op in ("not", "neg"):
        return (op, width, left)
    if op == "wide":
        return (op, dice.randint(1, widest), left)
    if op == "pick":
        return (op, width, of(1), left, of(width))
    if op in SHIFTS:
        return (op, width, left, of(dice.randint(1, widest)))
    pair = (left, of(width)) if dice.random() < 0.6 else (of(width), left)
    return (op, 1 if op in RELATIONS else width, *pair)


def random_sheet(seed, many=14, placed=0.3):
    """A triple: the widths of the inputs, a sheet, and the terms that were made."""
    dice = random.Random(seed)
    widths = tuple(dice.randint(1, 3) for _ in range(dice.randint(1, 3)))
    sheet = Sheet()
    terms = [sheet.unknown(width, number) for number, width in enumerate(widths)]
    for _ in range(many):
        node = random_node(dice, sheet, terms)
        terms.append(sheet.place(node) if dice.random() < placed else sheet.make(*node))
    return widths, sheet, terms


def all_rows(widths):
    return list(product(*[range(1 << width) for width in widths]))
