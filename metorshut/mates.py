"""The trees of two books gone along together (points 24, 30 and 43)."""

from metorshut.programs import declared
from metorshut.sheets import Sheet
from metorshut.termreckoning import Terms

PAIRS = ("look", "loop")


class Meeting:
    """Where walks have come in both trees, with the widths of their inputs and all their conditions."""

    def __init__(self, trees, widths, conditions, asks):
        self.trees = trees
        self.widths = widths
        self.conditions = conditions
        # For each program the triples (external, args, answer) so far.
        self.asks = asks


class Mates:
    """Two books whose terms stand in one sheet."""

    def __init__(self, program, other, book, mate):
        self.programs = (program, other)
        self.widths = book[1]
        self.trees = (book[4], mate[4])
        self.sheet = Sheet()
        self.terms = Terms(self.sheet)
        # For each book the term of each of its nodes.
        self.made = (self.sheet.made_anew(book[3], {}), self.sheet.made_anew(mate[3], {}))

    def beginning(self):
        """Where all walks begin."""
        return Meeting(self.trees, self.widths, (), ((), ()))

    def sides(self, meeting):
        """A pair where one of the trees parts: the word of a paper, and for each side a pair (tree, meeting).

        None where neither of them does.
        """
        one, two = meeting.trees
        if one[0] in PAIRS:
            return "first", [(one[at], self.behind_side(meeting, 0, at)) for at in (3, 4)]
        if two[0] in PAIRS:
            return "second", [(two[at], self.behind_side(meeting, 1, at)) for at in (3, 4)]
        return None

    def behind_side(self, meeting, number, at):
        """Where the walks are behind a side of the tree of this number."""
        node = meeting.trees[number]
        trees = (node[at], meeting.trees[1]) if number == 0 else (meeting.trees[0], node[at])
        term = self.made[number][node[2]]
        condition = term if at == 3 else self.terms.turned(term)
        return Meeting(trees, meeting.widths, meeting.conditions + (condition,), meeting.asks)

    def differing(self, term, other):
        """The condition that a term of the first book is not one of the second book."""
        made, other_made = self.made
        return self.terms.turned(self.sheet.make("==", 1, made[term], other_made[other]))

    def differing_args(self, meeting):
        """The conditions that the args of two asks differ, one by one; None where the walks do not ask alike."""
        node, other = meeting.trees
        if node[0] != "ask" or other[0] != "ask" or node[1] != other[1]:
            return None
        one, two = [declared(program, node[1]) for program in self.programs]
        if _widths_in(one) != _widths_in(two):
            return None
        return [self.differing(arg, other_arg) for arg, other_arg in zip(node[2], other[2])]

    def behind_asks(self, meeting):
        """Where the walks are behind two asks."""
        name = meeting.trees[0][1]
        width = declared(self.programs[0], name)[3]
        answer = self.sheet.unknown(width, len(meeting.widths))
        conditions = meeting.conditions
        asks = []
        for program, node, made, asked in zip(self.programs, meeting.trees, self.made, meeting.asks):
            args = tuple([made[arg] for arg in node[2]])
            earlier = [one[1:] for one in asked if one[0] == name]
            conditions += tuple(self.terms.answer_conditions(declared(program, name), args, answer, earlier))
            asks.append((*asked, (name, args, answer)))
        trees = (meeting.trees[0][3], meeting.trees[1][3])
        return Meeting(trees, meeting.widths + (width,), conditions, tuple(asks))

    def differing_ends(self, meeting):
        """The conditions that the ends of both trees differ, one at most; None where they are of two kinds, or cut."""
        node, other = meeting.trees
        if node[0] != "end" or other[0] != "end":
            return None
        outcome, other_outcome = node[1], other[1]
        if outcome[0] == "returns" and other_outcome[0] == "returns":
            return [self.differing(outcome[1], other_outcome[1])]
        return [] if outcome == other_outcome and outcome[0] not in ("returns", "cut") else None


def _widths_in(external):
    return [kind for _, kind in external[2]], external[3]
