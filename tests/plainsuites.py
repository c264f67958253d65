"""Suites, tests and prints, worked out plainly: by a run for each full input, and by all walks for each mutant."""

from itertools import combinations

from metorshut.errors import TooMany
from metorshut.goals import goals_of, meets
from metorshut.inputs import inputs_of
from metorshut.mutating import with_mutant
from metorshut.programs import declared
from metorshut.writing import text_of
from plainrun import plain_report
from plainwalk import Walker


class PlainSuites:
    def __init__(self, program, unit, bounds):
        self.program = program
        self.unit = unit
        self.bounds = bounds
        inputs = list(inputs_of(program, unit, bounds))
        self.reports = {tried: plain_report(program, unit, *tried, bounds) for tried in inputs}
        cut = [(tried, report[3][1]) for tried, report in self.reports.items() if report[3][0] == "cut"]
        self.missed = ("open", min(cut)[1], min(cut)[0]) if cut else ("shut",)
        self.known = {}
        self.walkers = {}

    def goals(self, kind):
        """The goals; None if there are too many."""
        try:
            return goals_of(self.program, self.unit, kind)
        except TooMany:
            return None

    def walker(self, goal):
        if goal not in self.walkers:
            other = with_mutant(self.program, *goal[1:])
            self.walkers[goal] = Walker(self.program, other, self.unit, self.bounds, self.known)
        return self.walkers[goal]

    def answer(self, goal):
        if goal[0] == "mutant":
            told = self.walker(goal).answer()
            return {"parts": ("met", told[-1]), "alike": ("shut",)}.get(told[0], told)
        met = [tried for tried, report in self.reports.items() if meets(goal, report)]
        return ("met", min(met)) if met else self.missed

    def suite(self, kind):
        return tuple((goal, self.answer(goal)) for goal in self.goals(kind))

    def met_by_each(self, kind, suite):
        """For each input that can be a test the set of the goals that it meets."""
        if kind != "mutants":
            return {tried: frozenset(goal for goal, _ in suite if meets(goal, report))
                    for tried, report in self.reports.items()}
        return {tried: frozenset(goal for goal, _ in suite if self.walker(goal).parts(tried))
                for tried in sorted({answer[1] for _, answer in suite if answer[0] == "met"})}

    def tests(self, kind, suite):
        """The tests; None if there are too many classes."""
        met = self.met_by_each(kind, suite)
        classes = {}
        for tried in sorted(met):
            classes.setdefault(tried if kind == "mutants" else met[tried], tried)
        if len(classes) > 16:
            return None
        wanted = {goal for goal, answer in suite if answer[0] == "met"}
        inputs = sorted(classes.values())
        for size in range(len(inputs) + 1):
            for chosen in combinations(inputs, size):
                if wanted <= set().union(*[met[tried] for tried in chosen]):
                    return chosen

    def printed(self, kind):
        names = {name for report in self.reports.values() for name in report[4]}
        if kind == "mutants":
            for goal in self.goals(kind):
                names |= self.walker(goal).met()
        return tuple((name, text_of(declared(self.program, name))) for name in sorted(names))
