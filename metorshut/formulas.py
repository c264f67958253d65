"""Formulas: how all runs end, in two terms (points 23, 29, 31, 32 and 34)."""

from metorshut.errors import HasAsks
from metorshut.leaves import TreeWalk


def formula_of(program, book):
    """The formula of a taken book."""
    _, widths, _, _, tree = book
    if _has_asks(tree):
        raise HasAsks()
    walk = TreeWalk(program, book)
    kept = walk.go()
    numbers = {}
    for outcome in walk.ends:
        numbers.setdefault(_end_of(outcome), len(numbers))
    formula = Formula(walk, numbers)
    which, word = formula.terms_of(kept)
    return "formula", widths, walk.sheet.nodes, tuple(numbers), which, word


def _has_asks(tree):
    waiting = [tree]
    while waiting:
        part = waiting.pop()
        if part[0] == "ask":
            return True
        if part[0] in ("look", "loop"):
            waiting.extend(part[3:])
    return False


def _end_of(outcome):
    return ("returns",) if outcome[0] == "returns" else outcome


class Formula:
    """Joins the ends of a book's leaves; numbers is a dict of the ends."""

    def __init__(self, walk, numbers):
        self.sheet = walk.sheet
        self.ends = walk.ends
        self.numbers = numbers
        self.which_width = max(1, (len(numbers) - 1).bit_length())
        self.word_width = 1
        for outcome in self.ends:
            if outcome[0] == "returns":
                self.word_width = self.sheet.rows[outcome[1]][1]

    def terms_of(self, kept):
        """The terms of the number and the word, for what is left of a tree."""
        if isinstance(kept, int):
            outcome = self.ends[kept]
            which = self.sheet.word(self.which_width, self.numbers[_end_of(outcome)])
            return which, outcome[1] if outcome[0] == "returns" else self.sheet.word(self.word_width, 0)
        term, yes, no = kept
        which, word = self.terms_of(yes)
        other, other_word = self.terms_of(no)
        which = self.sheet.make("pick", self.which_width, term, which, other)
        return which, self.sheet.make("pick", self.word_width, term, word, other_word)
