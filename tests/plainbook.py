"""A judge and a maker of books, written plainly from the document: each way of a tree is run from its beginning."""

from itertools import product

from plainrun import Call, Cut, Ends, PlainRun, Raised, Returns, Thing, block_looks, look_count, power
from plainterms import Store, Term, read, right_paper, value


class Reached(Exception):
    """The run has gone all ways that it was told to, and comes to this node."""


class TermRun(PlainRun):
    """A run whose words are terms; it goes the ways that it is told to."""

    def __init__(self, program, unit, bounds, ways, store=None):
        super().__init__(program, unit, (), bounds)
        self.store = store or Store()
        self.left = list(ways)
        self.conditions = []
        self.widths = [kind for _, kind in self.table[unit][2]]
        self.bits = sum(self.widths)

    def node(self):
        """The node behind the ways."""
        args = [self.store.input(width, number) for number, width in enumerate(self.widths)]
        try:
            return ("end", ("returns", self.call(self.unit, args)))
        except Reached as error:
            return error.args[0]
        except Raised as error:
            return ("end", ("raises", error.args[0]))
        except Cut as error:
            return ("end", ("cut", error.args[0]))
        except Ends as error:
            return ("end", error.args[0])

    def call(self, name, args):
        self.depth += 1
        function = self.table[name]
        call = TermCall(self, function, args)
        try:
            call.block(function[6], 0)
            found = self.store.word(function[3], 0) if isinstance(function[3], int) else None
        except Returns as back:
            found = back.args[0]
        except Raised:
            self.depth -= 1
            raise
        self.depth -= 1
        return found

    def part(self, word, place, term):
        """Go a way of a look or a loop."""
        if not self.left:
            raise Reached((word, place, term))
        bit = self.left.pop(0)
        self.conditions.append(term if bit else self.store.make("not", 1, term))
        return bit == 1

    def look(self, place, term):
        self.step()
        went = self.part("look", place, term)
        self.steps += 1
        return went


class TermCall(Call):
    """A call of such a run."""

    def __init__(self, run, function, args):
        super().__init__(run, function, args)
        self.order = [name for name, _ in function[2]] + [place[0] for place in function[5]]
        self.visits = []
        for place in function[5]:
            if isinstance(place[1], int):
                zero = run.store.word(place[1], 0)
                self.values[place[0]] = [zero] * place[2] if len(place) == 3 else zero

    def bit(self, holds):
        return self.run.store.word(1, int(holds))

    def is_at(self, index, k):
        store = self.run.store
        return store.make("==", 1, index, store.word(index.width, k))

    def value(self, expr, number):
        op = expr[0]
        store = self.run.store
        if op == "word":
            return store.word(expr[2], expr[1]), number
        if op == "item":
            index, number = self.value(expr[2], number)
            self.pass_index(index, expr[1], number)
            words = self.values[expr[1]]
            m = min(len(words), power(index.width))
            found = words[m - 1]
            for k in reversed(range(m - 1)):
                found = store.make("pick", found.width, self.is_at(index, k), words[k], found)
            return found, number + 1
        if op == "field":
            thing = self.values[expr[1]]
            self.decide(number, self.bit(thing is not None), "nothing")
            return thing.values[expr[2]], number + 1
        if op in ("name", "null"):
            return super().value(expr, number)
        values = []
        for part in expr[1:]:
            if isinstance(part, tuple):
                got, number = self.value(part, number)
                values.append(got)
        if op in ("==", "!=") and self.width(expr[1]) is None:
            return self.bit((values[0] is values[1]) == (op == "==")), number
        if op in ("div", "rem"):
            none = store.make("==", 1, values[1], store.word(values[1].width, 0))
            self.decide(number, store.make("not", 1, none), "zero")
            number += 1
        return store.make(op, self.width(expr), *values), number

    def pass_index(self, index, name, number):
        store = self.run.store
        length = len(self.values[name])
        if length >= power(index.width):
            condition = self.bit(True)
        else:
            condition = store.make("<", 1, index, store.word(index.width, length))
        self.decide(number, condition, "index")

    def ask(self, external, words):
        run = self.run
        outer = TermCall(run, ("function", external[1], external[2], 1, 0, (), ()), words)
        if not run.look((external[1], 0), outer.value(external[5], 0)[0]):
            raise Raised("duty")
        run.step()
        if run.bits + external[3] > run.bounds[3]:
            raise Cut("bits")
        if not run.left:
            raise Reached(("ask", external[1], words))
        assert run.left.pop(0) == "answered"
        make, word = run.store.make, run.store.word
        answer = run.store.input(external[3], len(run.widths))
        run.widths.append(external[3])
        outer.kinds["result"] = external[3]
        outer.values["result"] = answer
        run.conditions.append(outer.value(external[6], 0)[0])
        for name, then, told in run.given:
            if external[4] and name == external[1]:
                same = word(1, 1)
                for one, other in zip(then, words):
                    same = make("&", 1, same, make("==", 1, one, other))
                run.conditions.append(make("|", 1, make("not", 1, same), make("==", 1, told, answer)))
        run.given.append((external[1], words, answer))
        run.steps += 1
        run.bits += external[3]
        return answer

    def do_let(self, statement, number):
        _, place, expr = statement
        if place[0] != "item":
            super().do_let(statement if place[0] == "name" else ("let", place, expr), number)
            return
        index, number = self.value(place[2], number)
        self.pass_index(index, place[1], number)
        got, _ = self.value(expr, number + 1)
        words = self.values[place[1]]
        for k in range(min(len(words), power(index.width))):
            words[k] = self.run.store.make("pick", got.width, self.is_at(index, k), got, words[k])

    def decide(self, number, term, name):
        # What the elder code passes here for fields it has decided by itself.
        term = self.bit(term) if isinstance(term, bool) else term
        if not self.run.look((self.name, number), term):
            raise Raised(name)

    def do_make(self, statement, number):
        super().do_make(statement, number)
        values = self.values[statement[1]].values
        for name, kind in self.run.table[statement[2]][2]:
            if isinstance(kind, int):
                values[name] = self.run.store.word(kind, 0)

    def do_if(self, statement, number):
        got, number = self.value(statement[1], number)
        if self.run.look((self.name, number), got):
            self.block(statement[2], number + 1)
        else:
            self.block(statement[3], number + 1 + block_looks(statement[2]))

    def do_assert(self, statement, number):
        got, number = self.value(statement[1], number)
        self.decide(number, got, "claim")

    def do_while(self, statement, number):
        own = number + look_count(statement[1])
        store = self.run.store
        while True:
            now = self.all_values()
            d = store.word(1, 0)
            for at, counts, then in self.visits:
                if at == own and counts == (len(self.run.given), len(self.run.things)):
                    e = store.word(1, 1)
                    for one, other in zip(then, now):
                        e = store.make("&", 1, e, self.same(one, other))
                    d = store.make("|", 1, d, e)
            if d is not store.word(1, 0) and self.run.part("loop", (self.name, own), d):
                raise Ends(("endless",))
            self.visits.append((own, (len(self.run.given), len(self.run.things)), now))
            got, _ = self.value(statement[1], number)
            if not self.run.look((self.name, own), got):
                return
            self.block(statement[2], own + 1)

    def same(self, one, other):
        if one is None or other is None or isinstance(one, Thing):
            return self.bit(one is other)
        return self.run.store.make("==", 1, one, other)

    def all_values(self):
        found = []
        for name in self.order:
            held = self.values[name]
            found += held if isinstance(held, list) else [held]
        for thing in self.run.things:
            found += thing.values.values()
        return found


def right_sheet(nodes):
    lengths = {"word": 3, "input": 3, "not": 3, "neg": 3, "wide": 3, "pick": 5}
    for at, node in enumerate(nodes):
        op = node[0]
        if len(node) != lengths.get(op, 4) or node[1] < 1 or node[1] > 8 or node in nodes[:at]:
            return False
        if op in ("word", "input"):
            if node[2] < 0 or op == "word" and node[2] >= power(node[1]):
                return False
            continue
        if any(part < 0 or part >= at for part in node[2:]):
            return False
        widths = [nodes[part][1] for part in node[2:]]
        if op in ("==", "!=", "<", "<="):
            fits = node[1] == 1 and widths[0] == widths[1]
        elif op == "pick":
            fits = widths == [1, node[1], node[1]]
        elif op == "wide":
            fits = True
        elif op in ("<<", ">>"):
            fits = widths[0] == node[1]
        else:
            fits = set(widths) == {node[1]}
        if not fits:
            return False
    return True


def right_book(program, unit, bounds, book):
    _, widths, met, nodes, tree = book
    own = tuple(kind for _, kind in dict((one[1], one) for one in program)[unit][2])
    if widths != own or sum(own) > bounds[3] or not right_sheet(nodes):
        return False
    judge = PlainJudge(program, unit, bounds, nodes)
    return judge.right(tree, ()) and met == tuple(sorted(judge.met))


class PlainJudge:
    def __init__(self, program, unit, bounds, nodes):
        self.rest = (program, unit, bounds)
        self.nodes = nodes
        self.met = set()

    def right(self, tree, ways):
        run = TermRun(*self.rest, ways)
        node = run.node()
        assert not run.left
        terms = run.store.expand(self.nodes)
        if tree[0] != node[0]:
            return False

        def is_term(number, term):
            return 0 <= number < len(terms) and terms[number] is term

        if tree[0] == "end":
            self.met |= run.met
            if node[1][0] == "returns":
                return tree[1][0] == "returns" and is_term(tree[1][1], node[1][1])
            return tree[1] == node[1]
        if tree[0] == "ask":
            if tree[1] != node[1] or len(tree[2]) != len(node[2]):
                return False
            return all(map(is_term, tree[2], node[2])) and self.right(tree[3], (*ways, "answered"))
        if tree[1] != node[1] or not is_term(tree[2], node[2]):
            return False
        if tree[3][0] == tree[4][0] == "shut":
            return False
        return all(self.right_side(side, ways, bit) for side, bit in ((tree[3], 1), (tree[4], 0)))

    def right_side(self, side, ways, bit):
        run = TermRun(*self.rest, ways)
        _, _, term = run.node()
        condition = term if bit else run.store.make("not", 1, term)
        if side[0] == "shut":
            return right_paper(run.widths, [*run.conditions, condition], side[1])
        if condition is run.store.word(1, 0):
            return False
        return self.right(side, (*ways, bit))


def loose_book(dice, program, unit, bounds):
    """A right book that need not be the one that is found: some sides to which no input goes are left open."""
    return LooseMaker(dice, program, unit, bounds).book()


class LooseMaker:
    def __init__(self, dice, *rest):
        self.dice = dice
        self.rest = rest
        self.store = Store()
        self.nodes = []
        self.numbers = {}
        self.met = set()

    def book(self):
        tree = self.tree(())
        widths = tuple(kind for _, kind in dict((one[1], one) for one in self.rest[0])[self.rest[1]][2])
        return ("book", widths, tuple(sorted(self.met)), tuple(self.nodes), tree)

    def number(self, term):
        """The number of a term; other nodes come ahead of it at times."""
        if term not in self.numbers:
            parts = [self.number(part) if isinstance(part, Term) else part for part in term.parts]
            if self.dice.random() < 0.2:
                spare = self.dice.choice(self.store.made)
                if spare is not term and spare not in self.numbers and spare.op in ("word", "input"):
                    self.numbers[spare] = len(self.nodes)
                    self.nodes.append((spare.op, spare.width, *spare.parts))
            self.numbers[term] = len(self.nodes)
            self.nodes.append((term.op, term.width, *parts))
        return self.numbers[term]

    def tree(self, ways):
        run = TermRun(*self.rest, ways, self.store)
        node = run.node()
        if node[0] == "end":
            self.met |= run.met
            if node[1][0] == "returns":
                return ("end", ("returns", self.number(node[1][1])))
            return node
        if node[0] == "ask":
            args = tuple(self.number(arg) for arg in node[2])
            return (*node[:2], args, self.tree((*ways, "answered")))
        sides = [self.side(ways, bit) for bit in (1, 0)]
        if sides[0][0] == sides[1][0] == "shut":
            # One of them was left open, and is not now: the place itself is one where no input goes.
            bit = 0 if node[2] is self.store.word(1, 0) else 1
            sides[1 - bit] = self.tree((*ways, bit))
        return (*node[:2], self.number(node[2]), *sides)

    def side(self, ways, bit):
        run = TermRun(*self.rest, ways, self.store)
        _, _, term = run.node()
        condition = term if bit else self.store.make("not", 1, term)
        conditions = [*run.conditions, condition]
        rows = product(*[range(power(width)) for width in run.widths])
        if any(all(value(one, words, known) for one in conditions) for words in rows for known in [{}]):
            return self.tree((*ways, bit))
        if condition is self.store.word(1, 0) or len(ways) > 12 or self.dice.random() < 0.5:
            return ("shut", self.paper(run.widths, conditions, ()))
        return self.tree((*ways, bit))

    def paper(self, widths, conditions, known):
        cube = [[0, 0] for _ in widths]
        for n, b, bit in known:
            cube[n][0] += power(b)
            cube[n][1] += power(b) * bit
        clashes = [at for at, one in enumerate(conditions) if read(one, cube) == [0]]
        if clashes and (self.dice.random() < 0.9 or len(known) == sum(widths)):
            return ("clash", self.dice.choice(clashes))
        free = [(n, b) for n, width in enumerate(widths) for b in range(width) if not cube[n][0] >> b & 1]
        n, b = self.dice.choice(free)
        return ("split", n, b, *[self.paper(widths, conditions, (*known, (n, b, bit))) for bit in (0, 1)])
