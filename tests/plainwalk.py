"""Walks of two programs, written plainly from the document: each run is made anew from its beginning."""

from itertools import product

from plainrun import plain_report, power


def args_of(program, unit):
    """All arguments of a unit, ascending."""
    params = next(one for one in program if one[1] == unit)[2]
    return list(product(*[range(power(kind)) for _, kind in params]))


class Walker:
    """Goes the walks of two programs at a unit."""

    def __init__(self, program, other, unit, bounds, known=None):
        self.programs = (program, other)
        self.unit = unit
        self.bounds = bounds
        # The reports of each program; those of the first one can be known from elsewhere.
        self.known = ({} if known is None else known, {})

    def report(self, which, args, answers):
        known = self.known[which]
        if (args, answers) not in known:
            known[args, answers] = plain_report(self.programs[which], self.unit, args, answers, self.bounds)
        return known[args, answers]

    def lets(self, args, answers):
        """The answers that are let in both, behind an ask of both."""
        found = []
        for word in range(8):
            reports = [self.report(which, args, (*answers, word)) for which in (0, 1)]
            if "BadInput answers" not in reports:
                found.append(word)
        return found

    def ends(self):
        """Yields (word, input, bound) for all ends of walks: word is parted, cut or alike."""
        for args in args_of(self.programs[0], self.unit):
            waiting = [()]
            while waiting:
                answers = waiting.pop()
                one, two = (self.report(which, args, answers) for which in (0, 1))
                bounds = [report[3][1] for report in (one, two) if report[3][0] == "cut"]
                if bounds:
                    yield "cut", (args, answers), bounds[0]
                elif one[3] != two[3]:
                    yield "parted", (args, answers), None
                elif one[3][0] == "asks":
                    waiting += [(*answers, word) for word in self.lets(args, answers)]
                else:
                    yield "alike", (args, answers), None

    def answer(self):
        ends = list(self.ends())
        parted = [tried for word, tried, _ in ends if word == "parted"]
        if parted:
            return "parts", min(parted)
        cut = [(tried, bound) for word, tried, bound in ends if word == "cut"]
        if cut:
            tried, bound = min(cut)
            return "open", bound, tried
        return ("alike",)

    def met(self):
        """The names that runs of the second program meet on the walks."""
        found = set()
        list(self.ends())
        for report in self.known[1].values():
            if isinstance(report, tuple):
                found.update(report[4])
        return found

    def parts(self, tried):
        """Whether an input parts the programs."""
        args, answers = tried
        for many in range(len(answers) + 1):
            one, two = (self.report(which, args, answers[:many]) for which in (0, 1))
            if "BadInput answers" in (one, two) or "cut" in (one[3][0], two[3][0]):
                return False
            if one[3] != two[3]:
                return True
            if one[3][0] != "asks":
                return False
        return False
