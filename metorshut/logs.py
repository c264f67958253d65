"""What one run has done, counted as its bounds count it (points 14, 15 and 17)."""

from metorshut.errors import BadInput
from metorshut.externals import let_answers, needs_hold
from metorshut.words import is_word


class Log:
    """What a run has done so far, and how it ends or waits (None while it goes on)."""

    def __init__(self, unit, bits, bounds):
        self.unit = unit
        # The widths of the parameters and of all answers.
        self.bits = bits
        self.bounds = bounds
        self.steps = 0
        # The most calls that had begun and not ended at one time.
        self.deepest = 1
        self.ways = []
        # Triples (external, args, answer).
        self.answered = []
        self.objects = []
        self.met = {unit: True}
        self.ending = None

    def copied(self):
        """Another log that tells the same."""
        other = Log(self.unit, self.bits, self.bounds)
        other.steps = self.steps
        other.deepest = self.deepest
        other.ways = list(self.ways)
        other.answered = list(self.answered)
        other.objects = [dict(one) for one in self.objects]
        other.met = dict(self.met)
        other.ending = self.ending
        return other

    def meet(self, name):
        """Note that the run comes to a statement with this name."""
        self.met[name] = True

    def end(self, outcome):
        """Note how the run ends."""
        self.ending = outcome

    def has_step(self):
        """Whether there is a step left; the run is cut if there is none."""
        if self.steps < self.bounds[0]:
            return True
        self.ending = ("cut", "steps")
        return False

    def decide(self, name, number, bit):
        """Go a way of a look; whether the run is not cut there."""
        if not self.has_step():
            return False
        self.steps += 1
        self.ways.append((name, number, bit))
        return True

    def begin_call(self, begun):
        """Begin a call when so many have begun and not ended; whether the run is not cut there."""
        if not self.has_step():
            return False
        if begun >= self.bounds[1]:
            self.ending = ("cut", "depth")
            return False
        self.steps += 1
        self.deepest = max(self.deepest, begun + 1)
        return True

    def make(self, record, reckoner):
        """Make an object of a record; its worth as a reference, None if the run is cut."""
        if not self.has_step():
            return None
        if len(self.objects) >= self.bounds[2]:
            self.ending = ("cut", "objects")
            return None
        self.steps += 1
        self.objects.append({name: reckoner.blank(kind) for name, kind in record[2]})
        return 0, len(self.objects) - 1

    def ask(self, external, args):
        """Decide the look of an external; its way, None if the run is cut there.

        Behind way 1 the run waits for an answer, or is cut.
        """
        bit = 1 if needs_hold(external, args) else 0
        if not self.decide(external[1], 0, bit):
            return None
        if bit == 1:
            self.come_to_wait(external, args)
        return bit

    def come_to_wait(self, external, args):
        """Wait for an answer, or be cut, behind way 1 of the look of an external."""
        if self.has_step():
            if self.bits + external[3] > self.bounds[3]:
                self.ending = ("cut", "bits")
            else:
                self.ending = ("asks", external[1], args)

    def waits(self):
        """Whether the run waits for an answer."""
        return self.ending is not None and self.ending[0] == "asks"

    def lets(self, external):
        """The answers that are let where the run waits."""
        _, name, args = self.ending
        return let_answers(external, args, tuple([one[1:] for one in self.answered if one[0] == name]))

    def answer(self, external, word):
        """Take the answer for which the run waits; raises BadInput if it is not let."""
        if not is_word(word, external[3]) or word not in self.lets(external):
            raise BadInput("answers")
        self.take(external, word)

    def take(self, external, word):
        """Take a word that is let as the answer."""
        _, name, args = self.ending
        self.steps += 1
        self.bits += external[3]
        self.answered.append((name, args, word))
        self.ending = None

    def picture(self, frame):
        """How all stands for a call: the number of answers, the fields of all objects, and its variables."""
        fields = tuple([tuple(one.values()) for one in self.objects])
        return len(self.answered), fields, tuple(frame.cells.values())

    def comes_again(self, frame, number):
        """Come to a `while` of a call, told apart by a number; the run is endless if all is as at an earlier time."""
        now = self.picture(frame)
        if now in frame.visits.get(number, ()):
            self.ending = ("endless",)
            return True
        frame.note_visit(number, now)
        return False

    def told(self, ending):
        """The report, with this outcome."""
        asked = tuple([(name, args) for name, args, _ in self.answered])
        return "run", tuple(self.ways), asked, ending, tuple(sorted(self.met))
