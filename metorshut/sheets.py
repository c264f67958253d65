"""Sheets of terms, and the rules by which terms are made (points 2, 3, 23, 24 and 25)."""

from metorshut.nodeparts import operands_of, reckoning_width
from metorshut.words import RELATIONS, is_word, result

EXCHANGED = ("+", "*", "&", "|", "^", "==")
LENGTHS = {"word": 3, "input": 3, "not": 3, "neg": 3, "wide": 3, "pick": 5}
PAIR_LENGTH = 4


class Sheet:
    """A right sheet that grows."""

    def __init__(self, rows=()):
        self.rows = list(rows)
        self.places = {node: at for at, node in enumerate(rows)}

    @property
    def nodes(self):
        """The tuple of its nodes."""
        return tuple(self.rows)

    def place(self, node):
        """The term of a node, which is put at the end if it is not there."""
        if node not in self.places:
            self.places[node] = len(self.rows)
            self.rows.append(node)
        return self.places[node]

    def word(self, width, value):
        """The term of a word."""
        return self.place(("word", width, value))

    def unknown(self, width, number):
        """The term of an input."""
        return self.place(("input", width, number))

    def make(self, op, width, *terms):
        """The term of an operation, made by the rules; the width is that of the result."""
        found = _by_rules(self, op, width, terms)
        return self.place((op, width, *terms)) if found is None else found

    def put_in(self, nodes, terms):
        """Make each node of another sheet anew, with these terms in the place of its inputs."""
        return self.made_anew(nodes, {node: terms[node[2]] for node in nodes if node[0] == "input"})

    def made_anew(self, nodes, terms):
        """The same with a dict of terms for input nodes; those that it has not stand for themselves."""
        made = []
        for node in nodes:
            if node[0] in ("word", "input"):
                made.append(terms[node] if node in terms else self.place(node))
            else:
                operands = [made[term] for term in operands_of(node)]
                made.append(self.make(node[0], node[1], *operands))
        return tuple(made)

    def value_at(self, term):
        """The value of a word node, None for another node."""
        node = self.rows[term]
        return node[2] if node[0] == "word" else None

    def parts_of_sum(self, term):
        """The base of a term, and its rest; the rest is None if the term is no sum."""
        node = self.rows[term]
        if node[0] == "+":
            rest = self.value_at(node[3])
            if rest is not None:
                return node[2], rest
        return term, None


def _by_rules(sheet, op, width, terms):
    """The term that a rule gives in the place of a node; None if no rule fits."""
    values = [sheet.value_at(term) for term in terms]
    if all([value is not None for value in values]):
        return sheet.word(width, result(op, reckoning_width(sheet.rows, op, width, terms), *values))
    if len(terms) == 1:
        return _by_one(sheet, op, width, terms[0])
    if op == "pick":
        return _by_choice(terms, values[0])
    if op == "!=":
        return sheet.make("not", 1, sheet.make("==", 1, *terms))
    left, right = terms
    if values[0] is not None and op in EXCHANGED:
        return sheet.make(op, width, right, left)
    if values[1] is not None:
        found = _by_word(sheet, op, width, left, values[1])
        if found is not None:
            return found
    if left == right:
        return _by_twins(sheet, op, width, left)
    if op in ("-", "=="):
        return _by_bases(sheet, op, width, left, right)
    return None


def _by_one(sheet, op, width, term):
    node = sheet.rows[term]
    if op == "wide":
        return term if node[1] == width else None
    return node[2] if node[0] == op else None


def _by_choice(terms, value):
    choice, left, right = terms
    if value is not None:
        return left if value == 1 else right
    return left if left == right else None


def _by_word(sheet, op, width, term, value):
    """The rules for a right operand that is a word."""
    top = (1 << sheet.rows[term][1]) - 1
    if op == "-":
        return sheet.make("+", width, term, sheet.word(width, -value & top))
    if op == "+":
        return _by_added_word(sheet, width, term, value, top)
    if op == "==":
        return _by_equal_word(sheet, term, value, top)
    if op == "*" or op == "div":
        if value == 0:
            return sheet.word(width, 0)
        return term if value == 1 else None
    if op == "&" or op == "|":
        # The value that leaves the term as it is, and the one that hides it.
        plain, hiding = (top, 0) if op == "&" else (0, top)
        if value == hiding:
            return sheet.word(width, hiding)
        return term if value == plain else None
    if op == "^":
        return term if value == 0 else None
    if op == "<<" or op == ">>":
        if value >= width:
            return sheet.word(width, 0)
        return term if value == 0 else None
    if op == "rem":
        return sheet.word(width, 0) if value <= 1 else None
    if op == "<":
        return sheet.word(1, 0) if value == 0 else None
    return sheet.word(1, 1) if value == top else None


def _by_added_word(sheet, width, term, value, top):
    if value == 0:
        return term
    base, rest = sheet.parts_of_sum(term)
    if rest is None:
        return None
    # A loop, as sums of sums of sums can stand in a sheet in which they were placed.
    while rest is not None and value != 0:
        value = rest + value & top
        made = sheet.word(width, value)
        term = base
        base, rest = sheet.parts_of_sum(term)
    return sheet.make("+", width, term, made)


def _by_equal_word(sheet, term, value, top):
    if top == 1:
        return term if value == 1 else sheet.make("not", 1, term)
    width = sheet.rows[term][1]
    base, rest = sheet.parts_of_sum(term)
    if rest is None:
        return None
    while rest is not None:
        value = value - rest & top
        made = sheet.word(width, value)
        term = base
        base, rest = sheet.parts_of_sum(term)
    return sheet.make("==", 1, term, made)


def _by_twins(sheet, op, width, term):
    """The rules for two operands that are the same term."""
    if op in ("&", "|"):
        return term
    if op in ("==", "<="):
        return sheet.word(1, 1)
    if op in ("-", "<", "^"):
        return sheet.word(width, 0)
    return None


def _by_bases(sheet, op, width, left, right):
    base, rest = sheet.parts_of_sum(left)
    other_base, other_rest = sheet.parts_of_sum(right)
    if base != other_base:
        return None
    rests = (rest or 0, other_rest or 0)
    return sheet.word(width, result(op, sheet.rows[left][1], *rests))


def judge_sheet(nodes):
    """Whether a sheet is right."""
    there = {}
    for at, node in enumerate(nodes):
        if node in there or not _is_right_node(nodes, at, node):
            return False
        there[node] = True
    return True


def _is_right_node(nodes, at, node):
    """Whether a node is right behind nodes that are."""
    op = node[0]
    if len(node) != LENGTHS.get(op, PAIR_LENGTH) or not 1 <= node[1] <= 8:
        return False
    if op == "word":
        return is_word(node[2], node[1])
    if op == "input":
        return node[2] >= 0
    terms = operands_of(node)
    if not all([0 <= term < at for term in terms]):
        return False
    return _widths_fit(op, node[1], [nodes[term][1] for term in terms])


def _widths_fit(op, width, operands):
    if op == "wide":
        return True
    if op in ("not", "neg", "<<", ">>"):
        return operands[0] == width
    if op == "pick":
        return operands == [1, width, width]
    if op in RELATIONS:
        return width == 1 and operands[0] == operands[1]
    return operands == [width, width]
