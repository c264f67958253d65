"""The walks of two programs together, for all inputs at once (points 14, 15, 17 and 42)."""

from metorshut.allruns import answered, places_from
from metorshut.courses import Course
from metorshut.tables import both, is_empty, least_in, none_of, without


class Walks:
    """The walks of a program, all of whose runs are there, together with another one.

    The terms of both stand in one sheet, so that walks with several programs
    share what is reckoned. If the walks need not be whole, those of inputs
    behind a parted one are left out.
    """

    def __init__(self, runs, other, whole):
        self.runs = runs
        self.whole = whole
        self.tables = runs.tables
        self.sheet = runs.course.sheet
        self.course = Course(other, runs.unit, runs.bounds, self.sheet)
        # Inputs that can still tell something.
        self.left = self.tables.all_inputs()
        # The least input at which a walk is parted, as (number, stage).
        self.parted = None
        # The least input at which a walk is cut, as (number, stage, bound).
        self.cut = None
        # The names that the runs of the other program meet.
        self.met = {}

    def go(self, mask):
        """Go the walks of the inputs in a mask."""
        waiting = [(self.runs.first, self.course.beginning(), mask)]
        while waiting:
            stage, stand, mask = waiting.pop()
            for place in stage.places:
                common = both(both(mask, self.left), place.mask)
                reached = []
                if not is_empty(common):
                    reached = places_from(self.course, self.tables, stage.widths, stand.copied(), common)
                for other, node, part in reached:
                    self.met.update(other.log.met)
                    alike = self.alike_at(stage, place, node, part)
                    if place.behind is not None and not is_empty(alike):
                        rest = answered(self.course, self.tables, place.behind.widths, other, alike)
                        if not is_empty(rest):
                            waiting.append((place.behind, other, rest))

    def alike_at(self, stage, place, node, mask):
        """Compare where both runs have come; the mask of the inputs whose walks neither part nor are cut there."""
        none = none_of(mask)
        bound = _bound_of(place.node) or _bound_of(node)
        if bound is not None:
            index = least_in(mask)
            if self.cut is None or index < self.cut[0]:
                self.cut = index, stage, bound
            return none
        same = self.same_outcome(place.node, node)
        alike = none if same is None else both(mask, self.tables.holding(stage.widths, same))
        differing = without(mask, alike)
        if not is_empty(differing):
            self.note_parted(stage, least_in(differing))
        return alike

    def note_parted(self, stage, index):
        """Note that walks are parted, the one of this input first."""
        if self.parted is None or index < self.parted[0]:
            self.parted = index, stage
            if not self.whole:
                self.left = self.tables.ahead_of(index)

    def same_outcome(self, node, other):
        """The term that tells whether the outcomes of two nodes are the same; None if they never are."""
        if node[0] != other[0]:
            return None
        if node[0] == "ask":
            _, name, args = node
            _, other_name, other_args = other
            if name != other_name or len(args) != len(other_args):
                return None
            return self.same_words(args, other_args)
        outcome, other_outcome = node[1], other[1]
        if outcome[0] == "returns" and other_outcome[0] == "returns":
            return self.same_words(outcome[1:], other_outcome[1:])
        return self.sheet.word(1, 1) if outcome == other_outcome else None

    def same_words(self, terms, others):
        """The term that tells whether terms have the same values as others, whatever their widths are."""
        found = self.sheet.word(1, 1)
        for term, other in zip(terms, others):
            width = max(self.sheet.rows[term][1], self.sheet.rows[other][1])
            pair = [self.sheet.make("wide", width, one) for one in (term, other)]
            found = self.sheet.make("&", 1, found, self.sheet.make("==", 1, *pair))
        return found

    def told(self):
        """The answer, as programs are compared."""
        if self.parted is not None:
            index, stage = self.parted
            return "parts", self.runs.input_at(stage, index)
        if self.cut is not None:
            index, stage, bound = self.cut
            return "open", bound, self.runs.input_at(stage, index)
        return ("alike",)


def _bound_of(node):
    """The bound that cuts runs at an end; None for other nodes."""
    return node[1][1] if node[0] == "end" and node[1][0] == "cut" else None
