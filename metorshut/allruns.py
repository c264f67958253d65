"""All runs of a unit, told for all inputs at once (points 14 to 17, 22 and 31)."""

from metorshut.courses import Course
from metorshut.errors import TooMany
from metorshut.tables import Tables, both, either, is_empty, least_in, none_of, without


class Place:
    """Where runs wait or end: the node there, the mask of the inputs, and the log of the runs.

    Behind an ask stands the stage that follows, for the answers that are let.
    """

    def __init__(self, node, mask, log):
        self.node = node
        self.mask = mask
        self.log = log
        self.behind = None


class Stage:
    """The places to which runs come with so many answers, and the widths of their inputs."""

    def __init__(self, widths):
        self.widths = widths
        self.places = []


class AllRuns:
    """The runs of a unit within bounds, in stages.

    Only answers that have the given widths are gone on with. Raises TooMany
    if there are more ends than the most; None means any number.
    """

    def __init__(self, program, unit, bounds, answer_widths, most):
        self.unit = unit
        self.bounds = bounds
        self.course = Course(program, unit, bounds)
        self.tables = Tables(self.course.sheet.rows, bounds[3])
        self.first = Stage(self.course.widths)
        # Pairs of a stage and a place in it.
        self.ends = []
        self.explore(answer_widths, most)

    def explore(self, answer_widths, most):
        """Find all places."""
        waiting = [(self.first, self.course.beginning(), self.tables.all_inputs())]
        while waiting:
            stage, stand, mask = waiting.pop()
            reached = places_from(self.course, self.tables, stage.widths, stand, mask)
            for other, node, part in reached:
                place = Place(node, part, other.log)
                stage.places.append(place)
                if node[0] == "end":
                    self.ends.append((stage, place))
                    if most is not None and len(self.ends) > most:
                        raise TooMany("leaves")
                    continue
                place.behind = Stage(stage.widths + (answer_widths[node[1]],))
                rest = answered(self.course, self.tables, place.behind.widths, other, part)
                if not is_empty(rest):
                    waiting.append((place.behind, other, rest))

    def input_at(self, stage, index):
        """The input of this number in a stage."""
        words = self.tables.words_at(stage.widths, index)
        many = len(self.first.widths)
        return words[:many], words[many:]

    def least_cut(self, left_out=None):
        """The least input that is cut, as (number, stage, bound); None if there is none.

        Runs that meet a name that is left out do not count.
        """
        found = None
        for stage, place in self.ends:
            outcome = place.node[1]
            if outcome[0] == "cut" and left_out not in place.log.met:
                index = least_in(place.mask)
                if found is None or index < found[0]:
                    found = index, stage, outcome[1]
        return found

    def inputs_meeting(self, name):
        """The mask of the inputs whose runs meet a name."""
        found = none_of(self.tables.all_inputs())
        for _, place in self.ends:
            if name in place.log.met:
                found = either(found, place.mask)
        return found

    def names_met(self):
        """The dict of the names that are met."""
        found = {}
        for _, place in self.ends:
            found.update(place.log.met)
        return found


def answer_widths_of(program):
    """For each external the width of its answers."""
    return {one[1]: one[3] for one in program if one[0] == "external"}


def places_from(course, tables, widths, stand, mask):
    """All places to which runs come from a stand before the next answer: triples (stand, node, mask)."""
    found = []
    waiting = [(stand, mask)]
    while waiting:
        stand, mask = waiting.pop()
        node = course.advance(stand)
        if node[0] in ("end", "ask"):
            found.append((stand, node, mask))
            continue
        holding = tables.holding(widths, node[2])
        yes, no = both(mask, holding), without(mask, holding)
        if is_empty(yes) or is_empty(no):
            course.go_way(stand, 0 if is_empty(yes) else 1)
            waiting.append((stand, mask))
        else:
            other = stand.copied()
            course.go_way(stand, 0)
            course.go_way(other, 1)
            waiting.extend([(stand, no), (other, yes)])
    return found


def answered(course, tables, widths, stand, mask):
    """Go on behind an ask; the mask of the inputs whose answer is let."""
    for term in course.take_answer(stand):
        mask = both(mask, tables.holding(widths, term))
    return mask
