"""Terms as the document tells them, one bit at a time: rules, values, readings, forms and papers.

Terms are objects here; two that are the same through and through are one object.
"""

from plainrun import power


class Term:
    def __init__(self, op, width, parts):
        self.op = op
        self.width = width
        self.parts = parts


class Store:
    """All terms, in the order in which they were made."""

    def __init__(self):
        self.there = {}
        self.made = []

    def place(self, op, width, *parts):
        key = (op, width, *[id(part) if isinstance(part, Term) else part for part in parts])
        if key not in self.there:
            self.there[key] = Term(op, width, parts)
            self.made.append(self.there[key])
        return self.there[key]

    def word(self, width, value):
        return self.place("word", width, value % power(width))

    def input(self, width, number):
        return self.place("input", width, number)

    def expand(self, nodes):
        """The terms of a right sheet."""
        found = []
        for node in nodes:
            if node[0] in ("word", "input"):
                found.append(self.place(*node))
            else:
                found.append(self.place(node[0], node[1], *[found[part] for part in node[2:]]))
        return found

    def make(self, op, width, *parts):
        """The rules of point 24, in their order."""
        words = [part.parts[0] if part.op == "word" else None for part in parts]
        if None not in words:
            return self.word(width, reckon(op, width, [part.width for part in parts], words))
        a, v = parts[0], words[-1]
        b = parts[1] if len(parts) == 2 else None
        if op == "!=":
            return self.make("not", 1, self.make("==", 1, a, b))
        if op in ("+", "*", "&", "|", "^", "==") and words[0] is not None:
            return self.make(op, width, b, a)
        if op == "-" and v is not None:
            return self.make("+", width, a, self.word(width, -v))
        if op in ("not", "neg"):
            return a.parts[0] if a.op == op else self.place(op, width, a)
        if op == "wide":
            return a if a.width == width else self.place(op, width, a)
        if op == "pick":
            if words[0] is not None:
                return parts[1] if words[0] == 1 else parts[2]
            return parts[1] if parts[1] is parts[2] else self.place(op, width, *parts)
        if v is not None:
            found = self.with_word(op, width, a, v)
            if found is not None:
                return found
        if a is b and op in ("-", "==", "<=", "<", "^", "&", "|"):
            return {"&": lambda: a, "|": lambda: a, "==": lambda: self.word(1, 1), "<=": lambda: self.word(1, 1),
                    "<": lambda: self.word(1, 0)}.get(op, lambda: self.word(width, 0))()
        if op in ("-", "==") and self.base(a)[0] is self.base(b)[0]:
            rests = self.base(a)[1] - self.base(b)[1]
            return self.word(width, rests if op == "-" else int(rests == 0))
        return self.place(op, width, a, b)

    def base(self, term):
        if is_sum(term):
            return term.parts[0], term.parts[1].parts[0]
        return term, 0

    def with_word(self, op, width, a, v):
        ones = power(a.width) - 1
        if op == "+":
            if v == 0:
                return a
            if is_sum(a):
                return self.make("+", width, a.parts[0], self.word(width, a.parts[1].parts[0] + v))
        if op == "==":
            if a.width == 1:
                return a if v == 1 else self.make("not", 1, a)
            if is_sum(a):
                return self.make("==", 1, a.parts[0], self.word(a.width, v - a.parts[1].parts[0]))
        told = {
            "*": {0: 0, 1: a}, "&": {0: 0, ones: a}, "|": {0: a, ones: ones}, "^": {0: a}, "div": {0: 0, 1: a},
            "rem": {0: 0, 1: 0}, "<": {0: 0}, "<=": {ones: 1},
        }.get(op, {})
        if op in ("<<", ">>"):
            told = {0: a, **{at: 0 for at in range(width, 256)}}
        found = told.get(v)
        return self.word(width, found) if isinstance(found, int) else found


def is_sum(term):
    return term.op == "+" and term.parts[1].op == "word"


def reckon(op, width, widths, words):
    """The word of an operation; the width is that of the result."""
    l, r = words[0], words[1] if len(words) > 1 else 0
    m = power(width)
    if op in ("div", "rem"):
        return 0 if r == 0 else l // r if op == "div" else l - r * (l // r)
    return {
        "not": lambda: m - 1 - l, "neg": lambda: -l % m, "+": lambda: (l + r) % m, "-": lambda: (l - r) % m,
        "*": lambda: l * r % m, "&": lambda: l & r, "|": lambda: l | r, "^": lambda: l ^ r,
        "<<": lambda: l * 2 ** r % m, ">>": lambda: l // 2 ** r, "==": lambda: int(l == r), "!=": lambda: int(l != r),
        "<": lambda: int(l < r), "<=": lambda: int(l <= r), "pick": lambda: words[1] if l else words[2],
        "wide": lambda: l % m,
    }[op]()


def value(term, words, known=None):
    known = {} if known is None else known
    if term not in known:
        if term.op == "word":
            known[term] = term.parts[0]
        elif term.op == "input":
            number = term.parts[0]
            known[term] = words[number] % power(term.width) if number < len(words) else 0
        else:
            operands = [value(part, words, known) for part in term.parts]
            known[term] = reckon(term.op, term.width, [part.width for part in term.parts], operands)
    return known[term]


def read(term, cube, known=None):
    """The bits of a term in a cube, the lowest one first: 0, 1, or None where it is not known."""
    known = {} if known is None else known
    if term not in known:
        known[term] = read_anew(term, cube, known)
    return known[term]


def bits_of(word, width):
    return [word >> at & 1 for at in range(width)]


def word_of(bits):
    return sum(bit << at for at, bit in enumerate(bits))


def read_anew(term, cube, known):
    op, w = term.op, term.width
    if op == "word":
        return bits_of(term.parts[0], w)
    if op == "input":
        number = term.parts[0]
        if number >= len(cube):
            return [None] * w
        knows, bits = cube[number]
        return [bits >> at & 1 if knows >> at & 1 else None for at in range(w)]
    parts = [read(part, cube, known) for part in term.parts]
    a, b = parts[0], parts[1] if len(parts) > 1 else None
    whole = all(None not in part for part in parts)
    if op == "not":
        return [None if bit is None else 1 - bit for bit in a]
    if op == "neg":
        return read_sum([0] * w, a, True)
    if op in ("+", "-"):
        return read_sum(a, b, op == "-")
    if op == "wide":
        return (a + [0] * w)[:w]
    if op == "pick":
        if a[0] is not None:
            return parts[1] if a[0] else parts[2]
        return [l if l == r else None for l, r in zip(parts[1], parts[2])]
    if op in ("&", "|"):
        hides = 0 if op == "&" else 1
        return [hides if hides in (l, r) else None if None in (l, r) else 1 - hides for l, r in zip(a, b)]
    if op == "^":
        return [None if None in (l, r) else l ^ r for l, r in zip(a, b)]
    if op in ("<<", ">>"):
        if None in b:
            return [0] * w if not any(bit != 0 for bit in a) else [None] * w
        by = min(word_of(b), w)
        return [0] * by + a[:w - by] if op == "<<" else a[by:] + [0] * by
    if op == "*":
        if not any(bit != 0 for bit in a) or not any(bit != 0 for bit in b):
            return [0] * w
        t = 0
        while t < w and None not in (a[t], b[t]):
            t += 1
        return bits_of(word_of(a[:t]) * word_of(b[:t]), w)[:t] + [None] * (w - t)
    if op in ("div", "rem"):
        if not whole:
            return [None] * w
        return bits_of(reckon(op, w, [w, w], [word_of(a), word_of(b)]), w)
    if op in ("==", "!="):
        same = op == "=="
        if any(None not in pair and pair[0] != pair[1] for pair in zip(a, b)):
            return [int(not same)]
        return [int(same)] if whole else [None]
    least = [word_of(bit or 0 for bit in part) for part in parts]
    greatest = [word_of(1 if bit is None else bit for bit in part) for part in parts]
    if op == "<":
        return [1 if greatest[0] < least[1] else 0 if least[0] >= greatest[1] else None]
    return [1 if greatest[0] <= least[1] else 0 if least[0] > greatest[1] else None]


def read_sum(a, b, less):
    carry = 1 if less else 0
    found = []
    for l, r in zip(a, b):
        r = r if r is None or not less else 1 - r
        three = (l, r, carry)
        found.append(None if None in three else sum(three) % 2)
        carry = 1 if three.count(1) > 1 else 0 if three.count(0) > 1 else None
    return found


def form(term):
    """A pair of a dict of factors, also of 0, and the constant; None if the term is not linear."""
    op, m = term.op, power(term.width)
    if op == "word":
        return {}, term.parts[0]
    if op == "input":
        return {term.parts[0]: 1}, 0
    if op not in ("+", "-", "neg", "not", "*", "<<"):
        return None
    forms = [form(part) for part in term.parts]
    words = [part.parts[0] if part.op == "word" else None for part in term.parts]
    if op in ("neg", "not"):
        return plus(m, (-1, forms[0]), (-1 if op == "not" else 0, ({}, 1)))
    if op in ("+", "-"):
        return plus(m, (1, forms[0]), (1 if op == "+" else -1, forms[1]))
    if words[1] is not None:
        return plus(m, (words[1] if op == "*" else 2 ** words[1], forms[0]))
    return plus(m, (words[0], forms[1])) if op == "*" and words[0] is not None else None


def plus(m, *parts):
    factors, constant = {}, 0
    for times, one in parts:
        if one is None:
            return None
        for number, factor in one[0].items():
            factors[number] = (factors.get(number, 0) + times * factor) % m
        constant = (constant + times * one[1]) % m
    return factors, constant


def right_paper(widths, conditions, paper, known=()):
    """Whether a paper is right for conditions that are terms; known are triples (input, bit, 0 or 1)."""
    if paper[0] == "split":
        _, n, b, zero, one = paper
        if n < 0 or n >= len(widths) or b < 0 or b >= widths[n] or any(bit[:2] == (n, b) for bit in known):
            return False
        return all(right_paper(widths, conditions, part, (*known, (n, b, way))) for way, part in enumerate((zero, one)))
    if paper[0] == "clash":
        if paper[1] < 0 or paper[1] >= len(conditions):
            return False
        cube = [[0, 0] for _ in widths]
        for n, b, bit in known:
            cube[n][0] += 2 ** b
            cube[n][1] += 2 ** b * bit
        return read(conditions[paper[1]], cube) == [0]
    return right_sums(conditions, paper[1])


def right_sums(conditions, rows):
    numbers = [at for at, _ in rows]
    if not rows or numbers != sorted(set(numbers)) or numbers[0] < 0 or numbers[-1] >= len(conditions):
        return False
    terms = [conditions[at] for at in numbers]
    if any(term.op != "==" for term in terms) or len({term.parts[0].width for term in terms}) > 1:
        return False
    forms = []
    for (_, many), term in zip(rows, terms):
        forms += [(many, form(term.parts[0])), (-many, form(term.parts[1]))]
    found = plus(power(terms[0].parts[0].width), *forms)
    return found is not None and not any(found[0].values()) and found[1] != 0
