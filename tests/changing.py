"""Drawn programs changed at some places, such that the checker lets them."""

from metorshut.check import check
from metorshut.closures import closure_of
from metorshut.errors import MakerError
from metorshut.mutating import mutants_of
from metorshut.programs import declared


def let_programs(programs):
    """Those of the programs that the checker lets."""
    found = []
    for program in programs:
        try:
            check(program)
        except MakerError:
            continue
        found.append(program)
    return found


def with_one(program, declaration):
    return tuple(declaration if one[1] == declaration[1] else one for one in program)


def closure(program, unit, word):
    """The declarations of one word that a unit can meet."""
    return [one for one in (declared(program, name) for name in closure_of(program, unit)) if one[0] == word]


def mutated(dice, program, unit):
    mutants = [one for function in closure(program, unit, "function") for one in mutants_of(program, function[1])]
    return with_one(program, dice.choice(mutants)) if mutants else program


def other_external(dice, external):
    """An external of the same head that gives something else, or is steady, or is not."""
    word, name, params, width, steady, needs, gives = external
    result = ("name", "result")
    told = ("word", dice.randrange(1 << width), width)
    chosen = dice.randrange(5)
    if chosen == 0:
        return (word, name, params, width, 1 - steady, needs, gives)
    if chosen == 1:
        return (word, name, params, width, steady, needs, ("word", 1, 1))
    if chosen == 2:
        return (word, name, params, width, steady, ("word", 1, 1), gives)
    if chosen == 3:
        return (word, name, params, width, steady, needs, (dice.choice(("<=", "!=")), result, told))
    return (word, name, params, width, steady, needs, ("|", gives, ("==", result, told)))


def changed_outside(dice, program, unit):
    externals = closure(program, unit, "external")
    return with_one(program, other_external(dice, dice.choice(externals))) if externals else program


def rewritten(dice, program, unit):
    """A function told in another way: it shows the same, but for what bounds cut."""
    function = dice.choice(closure(program, unit, "function"))
    return with_one(program, (*function[:6], Rewriter(dice).body(function[6])))


class Rewriter:
    def __init__(self, dice):
        self.dice = dice

    def body(self, body):
        return tuple(self.statement(one) for one in body)

    def statement(self, one):
        if one[0] == "if" and self.dice.random() < 0.5:
            return ("if", ("not", self.expr(one[1])), self.body(one[3]), self.body(one[2]))
        if one[0] in ("if", "while"):
            return (one[0], self.expr(one[1]), *[self.body(block) for block in one[2:]])
        if one[0] in ("assert", "return"):
            return (one[0], self.expr(one[1]))
        if one[0] == "let":
            return (*one[:2], self.expr(one[2]))
        if one[0] == "call":
            return (*one[:3], tuple(self.expr(arg) for arg in one[3]))
        if one[0] == "try":
            return ("try", self.body(one[1]), tuple((name, self.body(body)) for name, body in one[2]))
        return one

    def expr(self, expr):
        op = expr[0]
        if self.dice.random() < 0.6 or len(expr) == 1:
            return expr
        if op == "<":
            return ("not", ("<=", self.expr(expr[2]), self.expr(expr[1])))
        if op in ("==", "!="):
            return ("not", ("!=" if op == "==" else "==", *expr[1:]))
        if op == "+":
            return ("-", self.expr(expr[1]), ("neg", self.expr(expr[2])))
        if op == "&":
            return ("not", ("|", ("not", self.expr(expr[1])), ("not", self.expr(expr[2]))))
        if op in ("*", "^", "|"):
            return (op, self.expr(expr[2]), self.expr(expr[1]))
        if op in ("neg", "not"):
            return (op, ("neg", ("neg", self.expr(expr[1]))))
        return expr


def changed(dice, program, unit):
    """Another program with one change or two."""
    for _ in range(dice.choice((1, 1, 2))):
        action = dice.choice((mutated, mutated, changed_outside, changed_outside, rewritten))
        other = action(dice, program, unit)
        program = other if let_programs([other]) else program
    return program
