"""What is worked out of an entry: the goals that its runs meet, and the names (points 36 to 38, 41, 42 and 46)."""

from metorshut.allruns import AllRuns, answer_widths_of
from metorshut.books import MOST_LEAVES
from metorshut.closures import closure_of
from metorshut.covers import fewest
from metorshut.errors import TooMany
from metorshut.frames import check_width
from metorshut.mutating import mutants_of
from metorshut.parting import parted_rows
from metorshut.programs import declared, with_declaration
from metorshut.tables import least_in
from metorshut.walks import Walks
from metorshut.writing import text_of

MOST_CLASSES = 16


def findings_of(program, entry, kind, bounds):
    """What is worked out of an entry for a kind of goals; raises TooWide, and TooMany("leaves") but for mutants."""
    check_width(declared(program, entry), bounds)
    if kind == "mutants":
        return MutantFindings(program, entry, bounds)
    return RunFindings(program, entry, kind, bounds)


def goals_met(kind, ways, outcome):
    """The goals of a kind, but mutants, that a run with these ways and this outcome meets."""
    if kind == "ways":
        return [("way", *way) for way in ways]
    if kind == "pairs":
        return [("pair", *pair) for pair in zip(ways, ways[1:])]
    if outcome[0] == "raises":
        return [("end", *outcome)]
    return [] if outcome[0] == "cut" else [("end", outcome[0])]


def texts_of(program, names):
    """The pairs (name, text) for names, ascending."""
    return tuple([(name, text_of(declared(program, name))) for name in sorted(names)])


def _missed(runs):
    """The answer for a goal that is not met."""
    cut = runs.least_cut()
    if cut is None:
        return ("shut",)
    index, stage, bound = cut
    return "open", bound, runs.input_at(stage, index)


def _check_classes(many):
    if many > MOST_CLASSES:
        raise TooMany("classes")


def _least_tests(rows):
    """The tests among the inputs of some rows, pairs (input, numbers) ascending."""
    return tuple([rows[at][0] for at in fewest([numbers for _, numbers in rows])])


class RunFindings:
    """What is worked out for ways, pairs or ends."""

    def __init__(self, program, entry, kind, bounds):
        runs = AllRuns(program, entry, bounds, answer_widths_of(program), MOST_LEAVES)
        self.missed = _missed(runs)
        self.texts = texts_of(program, runs.names_met())
        leaves = []
        for stage, place in runs.ends:
            tried = runs.input_at(stage, least_in(place.mask))
            leaves.append((tried, goals_met(kind, place.log.ways, place.node[1])))
        # The least input of each leaf with the goals that it meets.
        self.leaves = sorted(leaves)

    def printed(self):
        """The print."""
        return self.texts

    def suite(self, goals):
        """The suite with these goals."""
        least = {}
        for tried, met in self.leaves:
            for goal in met:
                least.setdefault(goal, ("met", tried))
        return tuple([(goal, least.get(goal, self.missed)) for goal in goals])

    def tests(self, suite):
        """The tests of the suite."""
        numbers = {goal: at for at, (goal, _) in enumerate(suite)}
        classes = {}
        for tried, met in self.leaves:
            classes.setdefault(tuple(sorted(set([numbers[goal] for goal in met]))), tried)
        _check_classes(len(classes))
        return _least_tests([(tried, met) for met, tried in classes.items()])


class MutantFindings:
    """What is worked out for mutants.

    That is done when it is asked for first: a keeper counts the goals ahead of it.
    """

    def __init__(self, program, entry, bounds):
        self.program = program
        self.entry = entry
        self.bounds = bounds
        self.closure = closure_of(program, entry)
        # None when all is worked out.
        self.runs = AllRuns(program, entry, bounds, answer_widths_of(program), None)
        self.missed = _missed(self.runs)
        self.met = self.runs.names_met()
        # For each mutant (function, number) of a function that is met its answer.
        self.answers = {}

    def work_out(self):
        """Find the answers and the names, if they are not found yet."""
        if self.runs is not None:
            # What no run meets has no mutant that shows something else.
            for name in [one for one in self.closure if one in self.met]:
                if declared(self.program, name)[0] == "function":
                    self.work_out_mutants(name)
            self.runs = None

    def work_out_mutants(self, name):
        """Find the answers of the mutants of a function."""
        mask = self.runs.inputs_meeting(name)
        for number, mutant in enumerate(mutants_of(self.program, name)):
            # Where all names are met already, the answer is all that is wanted of the walks.
            walks = Walks(self.runs, with_declaration(self.program, mutant), not self.meets_all())
            # With the other inputs both programs do the same.
            walks.cut = self.runs.least_cut(name)
            walks.go(mask)
            self.met.update(walks.met)
            told = walks.told()
            if told[0] == "parts":
                self.answers[name, number] = "met", told[1]
            else:
                self.answers[name, number] = ("shut",) if told[0] == "alike" else told

    def meets_all(self):
        """Whether all names of the closure are met."""
        return len(self.met) == len(self.closure)

    def printed(self):
        """The print."""
        if not self.meets_all():
            self.work_out()
        return texts_of(self.program, self.met)

    def suite(self, goals):
        """The suite with these goals."""
        self.work_out()
        return tuple([(goal, self.answers.get(goal[1:], self.missed)) for goal in goals])

    def tests(self, suite):
        """The tests of the suite."""
        _check_classes(len(set([answer[1] for _, answer in suite if answer[0] == "met"])))
        return _least_tests(parted_rows(self.program, self.entry, suite, self.bounds))
