"""Random programs whose runs part often: most choices depend on the parameters and the answers."""

import random

from metorshut.check import check
from metorshut.errors import Unmet

WORDS = ("+", "-", "*", "&", "|", "^", "<<", ">>", "+", "-")


def name(n):
    return ("name", n)


def word(value, width):
    return ("word", value, width)


class Rich:
    def __init__(self, seed, asks=True, records=True):
        self.dice = random.Random(seed)
        self.width = self.dice.choice((2, 2, 3))
        self.records = records and self.dice.random() < 0.4
        self.externals = []
        if asks and self.dice.random() < 0.6:
            self.externals = [self.external(f"e{at}") for at in range(self.dice.randint(1, 2))]

    def external(self, called):
        dice = self.dice
        while True:
            params = tuple((f"p{at}", dice.choice((1, 2))) for at in range(dice.randrange(3)))
            width = dice.choice((1, 2))
            needs = gives = word(1, 1)
            if params and dice.random() < 0.5:
                given, kind = dice.choice(params)
                needs = (dice.choice(("!=", "<", "<=")), name(given), word(dice.randrange(1 << kind), kind))
            if dice.random() < 0.6:
                other = word(dice.randrange(1 << width), width)
                if params and dice.random() < 0.7:
                    other = ("wide", name(dice.choice(params)[0]), width)
                gives = (dice.choice(("!=", "<=", "==")), name("result"), other)
            made = ("external", called, params, width, dice.randrange(2), needs, gives)
            try:
                check((made,))
            except Unmet:
                continue
            return made

    def program(self):
        dice = self.dice
        self.heads = []
        for at in range(dice.randint(1, 3)):
            widths = [dice.choice((1, self.width, self.width)) for _ in range(dice.randint(1, 2))]
            if at == 0:
                widths = [self.width, dice.choice((1, 2)), *([1] if dice.random() < 0.3 else [])]
            params = [(f"a{place}", kind) for place, kind in enumerate(widths)]
            kind = dice.choice((1, self.width, self.width))
            if at > 0 and self.records and dice.random() < 0.4:
                params.append(("r", "box"))
            self.heads.append(("function", f"g{at}", tuple(params), kind, 1 if at == 0 else 0))
        made = [*self.externals, *[self.function(head) for head in self.heads]]
        if self.records:
            made.append(("record", "box", (("v", self.width), ("n", "box"), ("f", 1))))
        dice.shuffle(made)
        check(tuple(made))
        return tuple(made)

    def function(self, head):
        dice = self.dice
        self.kinds = {given: kind for given, kind in head[2] if kind != "box"}
        self.boxes = [given for given, kind in head[2] if kind == "box"]
        self.result = head[3]
        self.arrays = {}
        places, first = [], []
        for at in range(dice.randint(1, 2)):
            kind = dice.choice((1, self.width))
            places.append((f"v{at}", kind))
            first.append(("let", name(f"v{at}"), self.expr(kind, 1)) if dice.random() < 0.7 else None)
        self.kinds.update(dict(places))
        if dice.random() < 0.3:
            places.append(("b", self.width, dice.randint(1, 5)))
            self.arrays = {"b": self.width}
        if self.records and dice.random() < 0.7:
            places.append(("q", "box"))
            self.boxes.append("q")
            if dice.random() < 0.9:
                first.append(("make", "q", "box"))
        self.left = 9
        self.number = int(head[1][1:])
        body = [one for one in first if one is not None] + list(self.body(3)) + list(self.body(3))
        if dice.random() < 0.7:
            body.append(("return", self.expr(self.result, 1)))
        return (*head, tuple(places), tuple(body))

    def body(self, depth):
        made = []
        for _ in range(self.dice.randint(1, 3)):
            if self.left > 0:
                self.left -= 1
                made.append(self.statement(depth))
        return tuple(made)

    def statement(self, depth):
        dice = self.dice
        chosen = dice.randrange(100)
        if depth and chosen < 28:
            return ("if", self.test(), self.body(depth - 1), self.body(depth - 1) if dice.random() < 0.5 else ())
        if depth and chosen < 40:
            return self.loop(depth)
        if depth and chosen < 47:
            names = dice.sample(("index", "nothing", "zero", "claim", "duty", "ouch"), dice.randint(1, 2))
            return ("try", self.body(depth - 1), tuple((one, self.body(depth - 1)) for one in names))
        if chosen < 50:
            return ("raise", dice.choice(("ouch", "zero")))
        if chosen < 53:
            return ("return", self.expr(self.result, 1))
        if chosen < 57:
            return ("assert", self.test())
        if chosen < 62 and self.boxes:
            return ("make", dice.choice(self.boxes), "box")
        if chosen < 68 and self.boxes:
            return ("let", self.reference(False), self.reference(True))
        if chosen < 82:
            return self.call()
        return self.let()

    def let(self):
        dice = self.dice
        if self.arrays and dice.random() < 0.3:
            return ("let", ("item", "b", self.expr(dice.choice((1, self.width)), 0)), self.expr(self.width, 1))
        if self.boxes and dice.random() < 0.4:
            field, kind = dice.choice((("v", self.width), ("f", 1)))
            return ("let", ("field", dice.choice(self.boxes), field), self.expr(kind, 1))
        target = dice.choice(list(self.kinds))
        return ("let", name(target), self.expr(self.kinds[target], 2))

    def call(self):
        dice = self.dice
        # A function that calls itself at once tells little.
        later = self.heads[self.number + 1:] * 3
        around = self.heads if self.left < 6 and dice.random() < 0.5 or not later and not self.externals else []
        called = dice.choice([*later, *around, *self.externals * 3])
        args = tuple(self.reference(True) if kind == "box" else self.expr(kind, 1) for _, kind in called[2])
        targets = [given for given, kind in self.kinds.items() if kind == called[3]]
        return ("call", dice.choice(targets) if targets and dice.random() < 0.9 else None, called[1], args)

    def loop(self, depth):
        dice = self.dice
        counter = dice.choice(list(self.kinds))
        width = self.kinds[counter]
        step = ("let", name(counter), (dice.choice("+-"), name(counter), word(dice.randrange(1 << width), width)))
        others = [name(other) for other, kind in self.kinds.items() if kind == width]
        others = [one for one in others if one != name(counter)]
        test = (dice.choice(("<", "<=", "!=")), name(counter), dice.choice([*others, word(1, width)]))
        if dice.random() < 0.25:
            test = self.test()
        return ("while", test, (*(self.body(depth - 1) if dice.random() < 0.4 else ()), step))

    def reference(self, null):
        box = self.dice.choice(self.boxes) if self.boxes else None
        if box is None or null and self.dice.random() < 0.15:
            return ("null",)
        return ("field", box, "n") if self.dice.random() < 0.3 else name(box)

    def test(self):
        dice = self.dice
        chosen = dice.randrange(100)
        if self.boxes and chosen < 15:
            return (dice.choice(("==", "!=")), self.reference(False), self.reference(True))
        if chosen < 25:
            return self.expr(1, 2)
        if chosen < 35:
            return (dice.choice("&|"), self.expr(1, 1), self.expr(1, 1))
        params = [given for given in self.kinds if given[0] == "a"]
        given = dice.choice(params if dice.random() < 0.6 else list(self.kinds))
        width = self.kinds[given]
        other = word(dice.randrange(1, 1 << width), width) if dice.random() < 0.5 else self.expr(width, 1, given)
        return (dice.choice(("==", "!=", "<", "<=")), name(given), other)

    def expr(self, width, depth, beside=None):
        dice = self.dice
        chosen = dice.randrange(100)
        if depth == 0 or chosen < 40:
            return self.bottom(width, beside)
        if chosen < 47:
            return (dice.choice(("not", "neg")), self.expr(width, depth - 1, beside))
        if chosen < 53:
            return ("pick", self.test(), self.expr(width, depth - 1), self.expr(width, depth - 1))
        if chosen < 57:
            return (dice.choice(("div", "rem")), self.expr(width, depth - 1), self.bottom(width))
        if width == 1 and chosen < 80:
            return self.test()
        left = self.expr(width, depth - 1, beside)
        return (dice.choice(WORDS), left, self.bottom(width, left[1] if left[0] == "name" else beside))

    def bottom(self, width, beside=None):
        """A place or a word, but not the variable that stands beside it."""
        dice = self.dice
        fitting = [name(given) for given, kind in self.kinds.items() if kind == width and given != beside]
        fitting += [one for one in fitting if one[1][0] == "a"]
        if self.arrays and dice.random() < 0.15 and width == self.width:
            return ("item", "b", self.bottom(dice.choice((1, 2))) if dice.random() < 0.6 else word(0, 1))
        if self.boxes and dice.random() < 0.15:
            if width == 1 or width == self.width:
                return ("field", dice.choice(self.boxes), "f" if width == 1 else "v")
        if fitting and dice.random() < 0.75:
            return dice.choice(fitting)
        wide = [given for given, kind in self.kinds.items() if kind > width and given != beside]
        if wide and dice.random() < 0.6:
            return ("wide", name(dice.choice(wide)), width)
        return word(dice.randrange(1, 1 << width), width)


def rich_program(seed, asks=True, records=True):
    return Rich(seed, asks, records).program()
