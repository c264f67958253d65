"""Judging books (points 2 and 29 to 31)."""

from metorshut.bounds import check_bounds
from metorshut.courses import Course
from metorshut.papers import judge_paper
from metorshut.sheets import judge_sheet


def judge_book(program, unit, bounds, book):
    """Whether a book is right for a unit within bounds."""
    check_bounds(bounds)
    _, widths, met, rows, tree = book
    course = Course(program, unit, bounds)
    if sum(course.widths) > bounds[3] or widths != course.widths or not judge_sheet(rows):
        return False
    follower = Follower(course, rows)
    return follower.follows(tree) and met == tuple(sorted(follower.met))


class Follower:
    """Goes along a tree, and compares what it tells with the course of the runs.

    The nodes of the book stand as they are in the sheet of the course: so
    terms that are the same through and through have the same number.
    """

    def __init__(self, course, rows):
        self.course = course
        self.met = {}
        self.made = []
        for node in rows:
            parts = node[2:]
            if node[0] not in ("word", "input"):
                parts = tuple([self.made[term] for term in parts])
            self.made.append(course.sheet.place(node[:2] + parts))

    def term(self, number):
        """The term of the course for a term of the book; None if there is none."""
        return self.made[number] if 0 <= number < len(self.made) else None

    def follows(self, tree):
        """Whether the tree tells what the runs do."""
        waiting = [(self.course.beginning(), (), tree)]
        while waiting:
            stand, conditions, part = waiting.pop()
            node = self.course.advance(stand)
            if not self.tells(part, node):
                return False
            if node[0] == "end":
                self.met.update(stand.log.met)
            elif node[0] == "ask":
                added = self.course.take_answer(stand)
                waiting.append((stand, conditions + tuple(added), part[3]))
            else:
                found = self.sides_behind(stand, conditions, node[2], part[3:])
                if found is None:
                    return False
                waiting.extend(found)
        return True

    def tells(self, part, node):
        """Whether a part of the tree tells of a node, without what stands below it."""
        if part[0] != node[0]:
            return False
        if node[0] == "end":
            return self.tells_outcome(part[1], node[1])
        if node[0] == "ask":
            return part[1] == node[1] and tuple([self.term(arg) for arg in part[2]]) == node[2]
        return part[1] == node[1] and self.term(part[2]) == node[2]

    def tells_outcome(self, told, outcome):
        """Whether an outcome with a term of the book is this one."""
        if outcome[0] == "returns":
            return told[0] == "returns" and self.term(told[1]) == outcome[1]
        return told == outcome

    def sides_behind(self, stand, conditions, term, sides):
        """What is to be followed below a node; None if a shut side is wrong, or an open one is to be shut."""
        found = []
        for bit, side in ((1, sides[0]), (0, sides[1])):
            condition = term if bit == 1 else self.course.terms.turned(term)
            wanted = conditions + (condition,)
            if side[0] == "shut":
                question = (self.course.widths_at(stand), self.course.sheet.rows, wanted)
                if not judge_paper(question, side[1]):
                    return None
            elif self.course.sheet.value_at(condition) == 0:
                return None
            else:
                other = stand.copied()
                self.course.go_way(other, bit)
                found.append((other, wanted, side))
        return found or None
