"""Papers that two programs are alike (points 2, 24, 30, 42 and 43)."""

from metorshut.books import Spread
from metorshut.leaves import bits_asked
from metorshut.mates import Mates
from metorshut.papers import judge_paper
from metorshut.refuting import paper_against
from metorshut.tables import Tables, is_empty


def judge_alike(program, other, entry, book, mate, paper):
    """Whether a paper shows that two programs are alike, by a taken book of each."""
    mates = Mates(program, other, book, mate)
    waiting = [(mates.beginning(), paper)]
    while waiting:
        meeting, part = waiting.pop()
        found = _parts_behind(mates, meeting, part)
        if found is None:
            return False
        waiting.extend(found)
    return True


def _parts_behind(mates, meeting, part):
    """The pairs (meeting, part) that stand below a part of a paper; None if the part is wrong."""
    sides = mates.sides(meeting)
    if sides is not None:
        word, found = sides
        return _open_sides(mates, found, part[1:]) if part[0] == word else None
    conditions = mates.differing_args(meeting)
    if conditions is not None:
        if part[0] != "asks" or not _are_papers(mates, meeting, conditions, part[1]):
            return None
        return [(mates.behind_asks(meeting), part[2])]
    conditions = mates.differing_ends(meeting)
    if conditions is None or part[0] != "ends":
        return None
    papers = () if part[1] is None else part[1:]
    return [] if _are_papers(mates, meeting, conditions, papers) else None


def _open_sides(mates, sides, parts):
    """The pairs (meeting, part) for the sides that the paper does not shut; None if it shuts one wrongly, or not."""
    found = []
    for (tree, meeting), part in zip(sides, parts):
        if part[0] == "shut":
            if not _is_paper(mates, meeting.widths, meeting.conditions, part[1]):
                return None
        elif tree[0] == "shut":
            return None
        else:
            found.append((meeting, part))
    return found


def _are_papers(mates, meeting, conditions, papers):
    """Whether these are right papers, one for each of the conditions behind those of the meeting."""
    if len(papers) != len(conditions):
        return False
    for condition, paper in zip(conditions, papers):
        if not _is_paper(mates, meeting.widths, meeting.conditions + (condition,), paper):
            return False
    return True


def _is_paper(mates, widths, conditions, paper):
    return judge_paper((widths, mates.sheet.rows, conditions), paper)


def alike_paper(program, other, entry, book, mate):
    """A right paper that two programs are alike; None if there is none."""
    finder = AlikeFinder(Mates(program, other, book, mate), sum(book[1]) + bits_asked(program, book[4]))
    return finder.paper_from(finder.mates.beginning(), Spread((), (), finder.tables.all_inputs()))


class AlikeFinder:
    """Goes along two trees, and shuts each side to which no walk goes."""

    def __init__(self, mates, bits):
        self.mates = mates
        self.tables = Tables(mates.sheet.rows, bits)

    def paper_from(self, meeting, spread):
        """The paper for what stands below a meeting; None if there is none."""
        sides = self.mates.sides(meeting)
        if sides is not None:
            word, ((_, yes), (_, no)) = sides
            first = self.side_paper(yes, spread)
            second = None if first is None else self.side_paper(no, spread)
            return None if second is None else (word, first, second)
        conditions = self.mates.differing_args(meeting)
        if conditions is None:
            return self.paper_of_ends(meeting, spread)
        papers = self.papers_against(meeting, spread, conditions)
        if papers is None:
            return None
        behind = self.mates.behind_asks(meeting)
        inner = self.paper_from(behind, self.narrowed(spread, behind))
        return None if inner is None else ("asks", papers, inner)

    def side_paper(self, meeting, spread):
        """The paper for a side of a tree; None if there is none."""
        narrowed = self.narrowed(spread, meeting)
        if is_empty(narrowed.common):
            return "shut", self.shut(narrowed)
        return self.paper_from(meeting, narrowed)

    def paper_of_ends(self, meeting, spread):
        """The paper for two ends; None if there is none."""
        conditions = self.mates.differing_ends(meeting)
        papers = None if conditions is None else self.papers_against(meeting, spread, conditions)
        if papers is None:
            return None
        return ("ends", *papers) if papers else ("ends", None)

    def narrowed(self, spread, meeting):
        """The spread with all conditions of a meeting."""
        for term in meeting.conditions[len(spread.conditions):]:
            spread = spread.narrowed(term, self.tables.holding(meeting.widths, term))
        return spread

    def papers_against(self, meeting, spread, conditions):
        """The papers for each of these conditions behind those of a meeting; None if one of them can hold."""
        papers = []
        for term in conditions:
            narrowed = spread.narrowed(term, self.tables.holding(meeting.widths, term))
            if not is_empty(narrowed.common):
                return None
            papers.append(self.shut(narrowed))
        return tuple(papers)

    def shut(self, spread):
        """A right paper that no input is in a spread."""
        return paper_against(self.mates.sheet.rows, spread.conditions, spread.masks)
