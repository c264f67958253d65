"""A second runner, written plainly from the document: by recursion and errors, one look at a time."""


class Cut(Exception):
    pass


class Ends(Exception):
    pass


class Returns(Exception):
    pass


class Raised(Exception):
    pass


class Wrong(Exception):
    pass


class Thing:
    def __init__(self, kinds):
        self.kinds = kinds
        self.values = {name: 0 if isinstance(kind, int) else None for name, kind in kinds.items()}


def power(width):
    return 2 ** width


def plain_report(program, unit, args, answers, bounds):
    """The report, or the name of the error."""
    run = PlainRun(program, unit, answers, bounds)
    return run.whole(args)


def look_count(expr):
    op = expr[0]
    own = 1 if op in ("item", "field", "div", "rem") else 0
    return own + sum(look_count(part) for part in expr if isinstance(part, tuple))


def statement_looks(statement):
    """How many looks a statement has, with those of its blocks."""
    word = statement[0]
    if word == "let":
        return look_count(statement[1]) + look_count(statement[2])
    if word == "call":
        return sum(look_count(arg) for arg in statement[3])
    if word == "return":
        return look_count(statement[1])
    if word in ("make", "raise"):
        return 0
    if word == "try":
        return block_looks(statement[1]) + sum(block_looks(body) for _, body in statement[2])
    return look_count(statement[1]) + 1 + sum(block_looks(body) for body in statement[2:])


def block_looks(body):
    return sum(statement_looks(statement) for statement in body)


class PlainRun:
    def __init__(self, program, unit, answers, bounds):
        self.table = {one[1]: one for one in program}
        self.unit = unit
        self.answers = list(answers)
        self.bounds = bounds
        self.ways, self.asked, self.met = [], [], {unit}
        self.events = []
        self.steps = self.depth = self.bits = 0
        self.things = []
        self.given = []

    def whole(self, args):
        function = self.table[self.unit]
        widths = [kind for _, kind in function[2]]
        self.bits = sum(widths)
        if self.bits > self.bounds[3]:
            return "TooWide"
        if len(args) != len(widths) or any(not 0 <= a < power(w) for a, w in zip(args, widths)):
            return "BadInput args"
        try:
            outcome = ("returns", self.call(self.unit, list(args)))
        except Raised as error:
            outcome = ("raises", error.args[0])
        except Cut as error:
            outcome = ("cut", error.args[0])
        except Ends as error:
            outcome = error.args[0]
        except Wrong:
            return "BadInput answers"
        if self.answers:
            return "BadInput answers"
        self.events.append(outcome)
        if outcome[0] == "asks":
            self.events[-1] = ("ask", *outcome[1:])
        return "run", tuple(self.ways), tuple(self.asked), outcome, tuple(sorted(self.met))

    def step(self):
        if self.steps == self.bounds[0]:
            raise Cut("steps")

    def look(self, place, holds):
        self.step()
        self.steps += 1
        self.ways.append((*place, 1 if holds else 0))
        self.events.append(self.ways[-1])
        return holds

    def call(self, name, args):
        self.depth += 1
        function = self.table[name]
        call = Call(self, function, args)
        try:
            call.block(function[6], 0)
            value = 0 if isinstance(function[3], int) else None
        except Returns as back:
            value = back.args[0]
        except Raised:
            self.ended(name)
            raise
        self.ended(name)
        return value

    def ended(self, name):
        self.depth -= 1
        if self.depth > 0:
            self.events.append(("back", name))


class Call:
    def __init__(self, run, function, args):
        self.run = run
        self.name = function[1]
        self.kinds = dict(function[2])
        self.values = {name: arg for (name, _), arg in zip(function[2], args)}
        self.arrays = {}
        self.seen = []
        for var in function[5]:
            if len(var) == 3:
                self.arrays[var[0]] = var[1]
                self.values[var[0]] = [0] * var[2]
            else:
                self.kinds[var[0]] = var[1]
                self.values[var[0]] = 0 if isinstance(var[1], int) else None

    def width(self, expr):
        """The width of an expr; None for references."""
        op = expr[0]
        if op == "name":
            kind = self.kinds[expr[1]]
        elif op == "item":
            kind = self.arrays[expr[1]]
        elif op == "field":
            kind = dict(self.run.table[self.kinds[expr[1]]][2])[expr[2]]
        elif op in ("word", "wide"):
            kind = expr[2]
        elif op == "null":
            kind = None
        elif op in ("==", "!=", "<", "<="):
            kind = 1
        else:
            kind = self.width(expr[2] if op == "pick" else expr[1])
        return kind if isinstance(kind, int) else None

    def value(self, expr, number):
        """A pair: the value, and the number of the next look."""
        op = expr[0]
        if op == "word":
            return expr[1], number
        if op == "null":
            return None, number
        if op == "name":
            return self.values[expr[1]], number
        if op == "item":
            at, number = self.value(expr[2], number)
            words = self.values[expr[1]]
            self.decide(number, at < len(words), "index")
            return words[at], number + 1
        if op == "field":
            thing = self.values[expr[1]]
            self.decide(number, thing is not None, "nothing")
            return thing.values[expr[2]], number + 1
        values = []
        for part in expr[1:]:
            if isinstance(part, tuple):
                got, number = self.value(part, number)
                values.append(got)
        if op in ("div", "rem"):
            self.decide(number, values[1] != 0, "zero")
            number += 1
        return self.reckoned(expr, values), number

    def reckoned(self, expr, values):
        op = expr[0]
        if op in ("==", "!="):
            same = values[0] is values[1] if isinstance(values[0], Thing) else values[0] == values[1]
            return int(same == (op == "=="))
        if op == "<":
            return int(values[0] < values[1])
        if op == "<=":
            return int(values[0] <= values[1])
        if op == "pick":
            return values[1] if values[0] else values[2]
        m = power(self.width(expr))
        if op == "not":
            return m - 1 - values[0]
        if op in ("neg", "wide"):
            return (values[0] if op == "wide" else -values[0]) % m
        a, b = values
        return {
            "+": lambda: a + b, "-": lambda: a - b, "*": lambda: a * b, "&": lambda: a & b,
            "|": lambda: a | b, "^": lambda: a ^ b, "<<": lambda: a * 2 ** b, ">>": lambda: a // 2 ** b,
            "div": lambda: a // b, "rem": lambda: a % b,
        }[op]() % m

    def decide(self, number, holds, name):
        if not self.run.look((self.name, number), holds):
            raise Raised(name)

    def block(self, body, number):
        for statement in body:
            getattr(self, "do_" + statement[0])(statement, number)
            number += statement_looks(statement)

    def do_let(self, statement, number):
        _, place, expr = statement
        at = None
        if place[0] == "item":
            at, number = self.value(place[2], number)
            self.decide(number, at < len(self.values[place[1]]), "index")
            number += 1
        elif place[0] == "field":
            self.decide(number, self.values[place[1]] is not None, "nothing")
            number += 1
        got, _ = self.value(expr, number)
        if place[0] == "item":
            self.values[place[1]][at] = got
        elif place[0] == "field":
            self.values[place[1]].values[place[2]] = got
        else:
            self.values[place[1]] = got

    def do_make(self, statement, number):
        run = self.run
        run.met.add(statement[2])
        run.step()
        if len(run.things) == run.bounds[2]:
            raise Cut("objects")
        run.steps += 1
        run.things.append(Thing(dict(run.table[statement[2]][2])))
        run.events.append(("make", statement[2]))
        self.values[statement[1]] = run.things[-1]

    def do_call(self, statement, number):
        _, target, name, args = statement
        words = []
        for arg in args:
            got, number = self.value(arg, number)
            words.append(got)
        run = self.run
        run.met.add(name)
        called = run.table[name]
        if called[0] == "external":
            got = self.ask(called, tuple(words))
        else:
            run.step()
            if run.depth == run.bounds[1]:
                raise Cut("depth")
            run.steps += 1
            run.events.append(("call", name))
            got = run.call(name, words)
        if target is not None:
            self.values[target] = got

    def ask(self, external, words):
        run = self.run
        outer = Call(run, ("function", external[1], external[2], 1, 0, (), ()), words)
        if not run.look((external[1], 0), outer.value(external[5], 0)[0] == 1):
            raise Raised("duty")
        run.step()
        if run.bits + external[3] > run.bounds[3]:
            raise Cut("bits")
        if not run.answers:
            raise Ends(("asks", external[1], words))
        run.events.append(("ask", external[1], words))
        answer = run.answers.pop(0)
        if not 0 <= answer < power(external[3]):
            raise Wrong()
        outer.kinds["result"] = external[3]
        outer.values["result"] = answer
        if outer.value(external[6], 0)[0] != 1:
            raise Wrong()
        if external[4]:
            for name, then, told in run.given:
                if name == external[1] and then == words and told != answer:
                    raise Wrong()
        run.steps += 1
        run.bits += external[3]
        run.given.append((external[1], words, answer))
        run.asked.append((external[1], words))
        return answer

    def do_if(self, statement, number):
        got, number = self.value(statement[1], number)
        if self.run.look((self.name, number), got == 1):
            self.block(statement[2], number + 1)
        else:
            self.block(statement[3], number + 1 + block_looks(statement[2]))

    def do_while(self, statement, number):
        while True:
            now = (id(statement), number, len(self.run.given), len(self.run.things), self.picture())
            if now in self.seen:
                raise Ends(("endless",))
            self.seen.append(now)
            got, own = self.value(statement[1], number)
            if not self.run.look((self.name, own), got == 1):
                return
            self.block(statement[2], own + 1)

    def picture(self):
        shown = {name: list(value) if isinstance(value, list) else value for name, value in self.values.items()}
        return shown, [dict(thing.values) for thing in self.run.things]

    def do_assert(self, statement, number):
        got, number = self.value(statement[1], number)
        self.decide(number, got == 1, "claim")

    def do_return(self, statement, number):
        raise Returns(self.value(statement[1], number)[0])

    def do_raise(self, statement, number):
        raise Raised(statement[1])

    def do_try(self, statement, number):
        _, body, catches = statement
        depth = self.run.depth
        try:
            self.block(body, number)
        except Raised as error:
            number += block_looks(body)
            for name, caught in catches:
                if name == error.args[0]:
                    assert depth == self.run.depth
                    self.block(caught, number)
                    return
                number += block_looks(caught)
            raise


def plain_holds(names, row, fact):
    """Whether a fact holds, by the plain runner."""
    function = ("function", "f", names, 1, 0, (), ())
    call = Call(PlainRun((function,), "f", (), (24, 4, 4, 8)), function, row)
    return call.value(fact, 0)[0] == 1
