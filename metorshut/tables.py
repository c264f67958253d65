"""For which inputs terms hold, told for all inputs of so many bits at once.

Inputs are numbered as Python orders them: the words of the first input are
the highest bits of the number. A mask is a tuple with a column for each page.
"""

from metorshut.columns import PAGE_BITS, bit_column, column_from, fitted, full_column, page_count
from metorshut.columns import reckoned, word_columns
from metorshut.nodeparts import cone_of, operands_of


class Tables:
    """The columns of the terms of a sheet, whose rows can grow.

    Layouts are tuples of the widths of the first inputs. All of them have at
    most so many bits in all; where they have fewer, the lowest bits of the
    numbers mean nothing.
    """

    def __init__(self, rows, bits):
        self.rows = rows
        self.bits = bits
        self.layouts = {}

    def all_inputs(self):
        """The mask of all inputs."""
        return (full_column(self.bits),) * page_count(self.bits)

    def ahead_of(self, index):
        """The mask of the inputs with lesser numbers."""
        full = full_column(self.bits)
        return tuple([full & ~column_from(self.bits, page, index) for page in range(page_count(self.bits))])

    def holding(self, widths, term):
        """The mask of the inputs for which a term of width 1 is 1."""
        pages = self.pages_of(widths)
        return tuple([self.columns(widths, at, known, term)[0] for at, known in enumerate(pages)])

    def pages_of(self, widths):
        """For each page a dict with the columns that are known so far."""
        if widths not in self.layouts:
            # What is known with fewer inputs holds with more of them.
            known = self.layouts.get(widths[:-1], [{} for _ in range(page_count(self.bits))])
            self.layouts[widths] = [dict(page) for page in known]
        return self.layouts[widths]

    def columns(self, widths, page, known, term):
        """The columns of a term on a page."""
        if term in known:
            return known[term]
        full = full_column(self.bits)
        cone = cone_of(self.rows, (term,), known)
        for at in cone:
            node = self.rows[at]
            op, width = node[0], node[1]
            if op == "word":
                known[at] = word_columns(width, node[2], full)
            elif op == "input":
                known[at] = fitted(self.input_columns(widths, page, node[2]), width)
            else:
                known[at] = reckoned(op, width, [known[part] for part in operands_of(node)], full)
        return known[term]

    def input_columns(self, widths, page, number):
        """The columns of an input on a page; none if there is no such input."""
        if number >= len(widths):
            return []
        lowest = self.bits - sum(widths[:number + 1])
        return [bit_column(self.bits, page, lowest + at) for at in range(widths[number])]

    def words_at(self, widths, index):
        """The words of the input of this number."""
        words = []
        left = self.bits
        for width in widths:
            left -= width
            words.append(index >> left & ((1 << width) - 1))
        return tuple(words)


def both(mask, other):
    """The mask of what is in both."""
    return tuple([one & two for one, two in zip(mask, other)])


def either(mask, other):
    """The mask of what is in one of both."""
    return tuple([one | two for one, two in zip(mask, other)])


def none_of(mask):
    """The mask of nothing, with as many pages."""
    return (0,) * len(mask)


def without(mask, other):
    """The mask of what is in the first one only."""
    return tuple([one & ~two for one, two in zip(mask, other)])


def is_empty(mask):
    """Whether no input is in the mask."""
    return not any(mask)


def least_in(mask):
    """The least number of an input in a mask that is not empty."""
    page = 0
    while mask[page] == 0:
        page += 1
    column = mask[page]
    return page << PAGE_BITS | (column & -column).bit_length() - 1
