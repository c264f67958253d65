"""Runs whose words are terms (points 24 and 30)."""

from metorshut.evaluation import Words
from metorshut.externals import outer_cells


class Terms(Words):
    """Reckons with the terms of a sheet in the place of words."""

    def __init__(self, sheet):
        self.sheet = sheet

    def word(self, width, value):
        """The term of a word."""
        return self.sheet.word(width, value)

    def make(self, op, width, parts):
        """The term of an operation on worths; the width is that of the result."""
        terms = [part[1] for part in parts]
        return self.sheet.make(op, width, *terms)

    def item(self, array, index):
        """The worth of an item of an array."""
        width, terms = array
        many = min(len(terms), 1 << index[0])
        found = terms[many - 1]
        for at in range(many - 2, -1, -1):
            found = self.sheet.make("pick", width, self.is_at(index, at), terms[at], found)
        return width, found

    def stored(self, array, index, found):
        """The array behind the storing of an item."""
        width, terms = array
        many = min(len(terms), 1 << index[0])
        made = [self.sheet.make("pick", width, self.is_at(index, at), found[1], terms[at]) for at in range(many)]
        return width, tuple(made) + terms[many:]

    def is_at(self, index, at):
        """The term that tells whether an index is this number."""
        width, term = index
        return self.sheet.make("==", 1, term, self.sheet.word(width, at))

    def turned(self, term):
        """The term that tells whether a term of width 1 is 0."""
        return self.sheet.make("not", 1, term)

    def are_same(self, worths, others):
        """The term that tells whether these worths are the others, one by one."""
        for one, other in zip(worths, others):
            # Then the rules make the word 0 of all that is joined.
            if one != other and self.is_known(one) and self.is_known(other):
                return self.sheet.word(1, 0)
        found = self.sheet.word(1, 1)
        for one, other in zip(worths, others):
            _, same = self.joined("==", [one, other])
            found = self.sheet.make("&", 1, found, same)
        return found

    def is_known(self, worth):
        """Whether a worth is a word, or a reference."""
        width, term = worth
        return width == 0 or self.sheet.value_at(term) is not None

    def answer_conditions(self, external, args, answer, earlier):
        """What holds of an answer that is let, behind the pairs (args, answer) of the earlier asks of the external."""
        cells = outer_cells(external, args)
        cells["result"] = (external[3], answer)
        found = [self.worth(external[6], cells, ())[1]]
        if external[4] == 1:
            for others, told in earlier:
                same = self.are_same(_arg_worths(external, others), _arg_worths(external, args))
                found.append(self.sheet.make("|", 1, self.turned(same), self.sheet.make("==", 1, told, answer)))
        return found


def _arg_worths(external, args):
    return [(kind, term) for (_, kind), term in zip(external[2], args)]
