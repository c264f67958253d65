"""Finding the books of units (points 29 to 31)."""

from metorshut.bounds import BOUNDS, check_bounds
from metorshut.courses import Course
from metorshut.errors import TooMany
from metorshut.frames import check_width
from metorshut.programs import declared
from metorshut.refuting import paper_against
from metorshut.tables import Tables, both, is_empty

MOST_LEAVES = 200


def book_of(program, unit, bounds=BOUNDS):
    """The book of a unit, in which each side to which no input goes is shut."""
    finder = found_book(program, unit, bounds)
    met = {}
    for end in finder.ends:
        met.update(end.log.met)
    return "book", finder.course.widths, tuple(sorted(met)), finder.course.sheet.nodes, finder.tree


def found_book(program, unit, bounds):
    """What has found the book of a unit; raises BadBounds, TooWide and TooMany."""
    check_bounds(bounds)
    check_width(declared(program, unit), bounds)
    finder = Finder(Course(program, unit, bounds))
    finder.find()
    return finder


class End:
    """The conditions of an end to which some input goes, the mask of these inputs, and what their runs have done."""

    def __init__(self, conditions, mask, log):
        self.conditions = conditions
        self.mask = mask
        self.log = log


class Spread:
    """The conditions of a place in a tree, the mask of each, and the mask of the inputs for which all of them hold."""

    def __init__(self, conditions, masks, common):
        self.conditions = conditions
        self.masks = masks
        self.common = common

    def narrowed(self, term, mask):
        """The same behind one condition more."""
        return Spread(self.conditions + (term,), self.masks + (mask,), both(self.common, mask))


class Finder:
    """Goes all ways that some input goes."""

    def __init__(self, course):
        self.course = course
        self.tables = Tables(course.sheet.rows, course.bounds[3])
        # The ends so far, in the order of the tree.
        self.ends = []
        self.tree = None

    def find(self):
        """Find the tree and its ends."""
        spread = Spread((), (), self.tables.all_inputs())
        self.tree = self.tree_from(self.course.beginning(), spread)

    def tree_from(self, stand, spread):
        """The tree of what a run does from where it stands."""
        node = self.course.advance(stand)
        if node[0] == "end":
            self.ends.append(End(spread.conditions, spread.common, stand.log))
            if len(self.ends) > MOST_LEAVES:
                raise TooMany("leaves")
            return node
        if node[0] == "ask":
            conditions = self.course.take_answer(stand)
            for term in conditions:
                spread = self.narrowed(stand, spread, term)
            return (*node, self.tree_from(stand, spread))
        term = node[2]
        turned = self.course.terms.turned(term)
        yes = self.side(stand.copied(), 1, self.narrowed(stand, spread, term))
        return (*node, yes, self.side(stand, 0, self.narrowed(stand, spread, turned)))

    def narrowed(self, stand, spread, term):
        """The spread behind one condition more."""
        return spread.narrowed(term, self.tables.holding(self.course.widths_at(stand), term))

    def side(self, stand, bit, spread):
        """A side of a node: shut if no input goes there."""
        if is_empty(spread.common):
            return "shut", paper_against(self.course.sheet.rows, spread.conditions, spread.masks)
        self.course.go_way(stand, bit)
        return self.tree_from(stand, spread)
