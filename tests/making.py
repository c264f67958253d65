"""Random programs that the checker lets, made from a seed."""

import random

from metorshut.check import check
from metorshut.errors import Unmet

TWO = ("+", "-", "*", "&", "|", "^", "div", "rem")
RAISED = ("index", "nothing", "zero", "claim", "duty", "ouch", "bad")


class Making:
    def __init__(self, seed):
        self.dice = random.Random(seed)
        self.records = {}
        self.externals = []
        self.functions = []

    def pick(self, things):
        return things[self.dice.randrange(len(things))]

    def chance(self, percent):
        return self.dice.randrange(100) < percent

    def program(self):
        dice = self.dice
        for at in range(dice.randrange(3)):
            self.records["r%d" % at] = None
        for name in self.records:
            kinds = [self.kind() for _ in range(dice.randrange(4))]
            self.records[name] = tuple(("f%d" % at, kind) for at, kind in enumerate(kinds))
        for at in range(dice.randrange(3)):
            self.externals.append(self.external("e%d" % at))
        heads = []
        for at in range(1 + dice.randrange(3)):
            entry = 1 if at == 0 or self.chance(40) else 0
            heads.append(self.head("g%d" % at, entry))
        self.functions = heads
        functions = [self.function(head) for head in heads]
        records = [("record", name, fields) for name, fields in self.records.items()]
        program = [*records, *self.externals, *functions]
        dice.shuffle(program)
        program = tuple(program)
        check(program)
        return program

    def kind(self, words=60):
        if self.records and not self.chance(words):
            return self.pick(list(self.records))
        return self.pick((1, 1, 2, 2, 3, 3, 4, 8))

    def external(self, name):
        while True:
            params = tuple(("p%d" % at, self.pick((1, 2))) for at in range(self.dice.randrange(3)))
            width = self.dice.randrange(1, 3)
            scope = Scope(dict(params), {}, {})
            needs = self.word(scope, 1, 2, True)
            scope.kinds["result"] = width
            gives = self.word(scope, 1, 2, True)
            made = ("external", name, params, width, self.dice.randrange(2), needs, gives)
            try:
                check((made,))
            except Unmet:
                continue
            return made

    def head(self, name, entry):
        words = 100 if entry or self.chance(50) else 40
        params = []
        for at in range(self.dice.randrange(3)):
            params.append(("a%d" % at, self.pick((1, 2, 3)) if entry else self.kind(words)))
        kind = self.pick((1, 2, 4, 8)) if entry else self.kind(words)
        return ("function", name, tuple(params), kind, entry)

    def function(self, head):
        scope = Scope(dict(head[2]), {}, self.records)
        places = []
        for at in range(1 + self.dice.randrange(4)):
            if self.chance(25):
                place = ("b%d" % at, self.pick((1, 2, 4, 8)), self.dice.randrange(1, 5))
                scope.arrays[place[0]] = place[1]
            else:
                place = ("v%d" % at, self.kind())
                scope.kinds[place[0]] = place[1]
            places.append(place)
        self.left = 16
        body = self.body(scope, head[3], 3)
        return (*head, tuple(places), body)

    def body(self, scope, kind, depth):
        made = []
        for _ in range(self.dice.randrange(1, 5)):
            if self.left > 0:
                self.left -= 1
                made.append(self.statement(scope, kind, depth))
        return tuple(made)

    def statement(self, scope, kind, depth):
        chosen = self.dice.randrange(100)
        if depth > 0 and chosen < 15:
            other = self.body(scope, kind, depth - 1) if self.chance(50) else ()
            return ("if", self.word(scope, 1, 2), self.body(scope, kind, depth - 1), other)
        if depth > 0 and chosen < 28:
            return ("while", self.word(scope, 1, 2), self.body(scope, kind, depth - 1))
        if depth > 0 and chosen < 40:
            names = self.dice.sample(RAISED, self.dice.randrange(1, 3))
            catches = tuple((name, self.body(scope, kind, depth - 1) if self.chance(60) else ()) for name in names)
            return ("try", self.body(scope, kind, depth - 1), catches)
        if chosen < 45:
            return ("raise", self.pick(RAISED))
        if chosen < 50:
            return ("return", self.expr(scope, kind, 2))
        if chosen < 54:
            return ("assert", self.word(scope, 1, 2))
        if chosen < 62 and scope.references():
            name = self.pick(scope.references())
            return ("make", name, scope.kinds[name])
        if chosen < 78:
            return self.call(scope)
        return self.let(scope)

    def call(self, scope):
        called = self.pick([*self.functions, *self.externals])
        args = tuple(self.expr(scope, kind, 1) for _, kind in called[2])
        targets = [name for name, kind in scope.kinds.items() if kind == called[3]]
        target = self.pick(targets) if targets and self.chance(80) else None
        return ("call", target, called[1], args)

    def let(self, scope):
        places = scope.places()
        if not places:
            return ("raise", "ouch")
        place, kind = self.pick(places)
        if place[0] == "item":
            place = ("item", place[1], self.word(scope, self.pick((1, 2, 3)), 1))
        return ("let", place, self.expr(scope, kind, 2))

    def expr(self, scope, kind, depth):
        if isinstance(kind, int):
            return self.word(scope, kind, depth)
        fitting = [place for place, other in scope.places() if other == kind]
        if fitting and not self.chance(25):
            return self.pick(fitting)
        return ("null",)

    def word(self, scope, width, depth, outside=False):
        dice = self.dice
        if depth == 0 or self.chance(25):
            return self.bottom(scope, width, outside)
        chosen = dice.randrange(100)
        if width == 1 and chosen < 60:
            if not outside and self.chance(25) and scope.references():
                kind = scope.kinds[self.pick(scope.references())]
                return (self.pick(("==", "!=")), self.expr(scope, kind, 1), self.expr(scope, kind, 1))
            other = self.pick((1, 2, 3))
            op = self.pick(("==", "!=", "<", "<="))
            return (op, self.word(scope, other, depth - 1, outside), self.word(scope, other, depth - 1, outside))
        if chosen < 70:
            return (self.pick(("not", "neg")), self.word(scope, width, depth - 1, outside))
        if chosen < 76:
            other = self.pick((1, 2, 3))
            op = self.pick(("<<", ">>"))
            return (op, self.word(scope, width, depth - 1, outside), self.word(scope, other, depth - 1, outside))
        if chosen < 82:
            parts = [self.word(scope, part, depth - 1, outside) for part in (1, width, width)]
            return ("pick", *parts)
        if chosen < 88:
            return ("wide", self.word(scope, self.pick((1, 2, 3, 8)), depth - 1, outside), width)
        op = self.pick(TWO[:6] if outside else TWO)
        return (op, self.word(scope, width, depth - 1, outside), self.word(scope, width, depth - 1, outside))

    def bottom(self, scope, width, outside):
        places = [place for place, kind in scope.places() if kind == width]
        if places and not self.chance(25):
            place = self.pick(places)
            if place[0] == "item":
                return ("item", place[1], self.word(scope, self.pick((1, 2)), 0))
            return place
        return ("word", self.dice.randrange(1 << width), width)


class Scope:
    def __init__(self, kinds, arrays, records):
        self.kinds = kinds
        self.arrays = arrays
        self.records = records

    def references(self):
        return [name for name, kind in self.kinds.items() if isinstance(kind, str)]

    def places(self):
        found = [(("name", name), kind) for name, kind in self.kinds.items()]
        found += [(("item", name), width) for name, width in self.arrays.items()]
        for name in self.references():
            found += [(("field", name, field), kind) for field, kind in self.records[self.kinds[name]]]
        return found


def made_program(seed):
    return Making(seed).program()
