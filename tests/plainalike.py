"""A second judge of papers that programs are alike, and a second finder of them, written plainly from the document."""

from itertools import product

from plainrun import power
from plainterms import Store, right_paper, value


class PlainAlike:
    def __init__(self, program, other, book, mate):
        self.programs = [{one[1]: one for one in part} for part in (program, other)]
        self.store = Store()
        self.terms = [self.anew(book[3]), self.anew(mate[3])]
        self.trees = (book[4], mate[4])
        self.widths = list(book[1])

    def anew(self, nodes):
        made = []
        for node in nodes:
            if node[0] in ("word", "input"):
                made.append(self.store.place(*node))
            else:
                made.append(self.store.make(node[0], node[1], *[made[part] for part in node[2:]]))
        return made

    def outside(self, expr, cells):
        """The term of an expr of an external."""
        op, make = expr[0], self.store.make
        if op == "name":
            return cells[expr[1]]
        if op == "word":
            return self.store.word(expr[2], expr[1])
        parts = [self.outside(part, cells) for part in expr[1:] if isinstance(part, tuple)]
        if op in ("==", "!=", "<", "<="):
            return make(op, 1, *parts)
        return make(op, expr[2] if op == "wide" else parts[-1 if op == "pick" else 0].width, *parts)

    def added(self, which, name, args, answer, asked):
        """The conditions that an ask adds."""
        _, _, params, _, steady, _, gives = self.programs[which][name]
        cells = {param: arg for (param, _), arg in zip(params, args)}
        found = [self.outside(gives, {**cells, "result": answer})]
        make = self.store.make
        for earlier, then, told in asked:
            if steady and earlier == name:
                same = self.store.word(1, 1)
                for one, other in zip(then, args):
                    same = make("&", 1, same, make("==", 1, one, other))
                found.append(make("|", 1, make("not", 1, same), make("==", 1, told, answer)))
        return found

    def differing(self, one, other):
        return self.store.make("not", 1, self.store.make("==", 1, self.terms[0][one], self.terms[1][other]))

    def right(self, paper, trees=None, conditions=(), widths=None, asked=((), ())):
        trees, widths = trees or self.trees, self.widths if widths is None else widths
        one, two = trees
        for which, word in enumerate(("first", "second")):
            node = trees[which]
            if node[0] in ("look", "loop"):
                if paper[0] != word:
                    return False
                term = self.terms[which][node[2]]
                sides = ((node[3], term, paper[1]), (node[4], self.store.make("not", 1, term), paper[2]))
                for side, condition, part in sides:
                    wanted = (*conditions, condition)
                    after = (side, two) if which == 0 else (one, side)
                    if part[0] == "shut":
                        if not right_paper(widths, wanted, part[1]):
                            return False
                    elif side[0] == "shut" or not self.right(part, after, wanted, widths, asked):
                        return False
                return True
        if one[0] == two[0] == "ask":
            return self.right_asks(paper, trees, conditions, widths, asked)
        if one[0] != "end" or two[0] != "end" or paper[0] != "ends":
            return False
        outcome, other = one[1], two[1]
        if outcome[0] == other[0] == "returns":
            wanted = (*conditions, self.differing(outcome[1], other[1]))
            return paper[1] is not None and right_paper(widths, wanted, paper[1])
        return outcome == other and outcome[0] in ("raises", "endless") and paper[1] is None

    def heads_fit(self, one, two):
        heads = [self.programs[which].get(node[1]) for which, node in enumerate((one, two))]
        return one[1] == two[1] and len({(tuple(kind for _, kind in head[2]), head[3]) for head in heads}) == 1

    def right_asks(self, paper, trees, conditions, widths, asked):
        one, two = trees
        if not self.heads_fit(one, two) or paper[0] != "asks" or len(paper[1]) != len(one[2]):
            return False
        for arg, other, part in zip(one[2], two[2], paper[1]):
            if not right_paper(widths, (*conditions, self.differing(arg, other)), part):
                return False
        after, wanted, answered = self.behind(trees, conditions, widths, asked)
        return self.right(paper[2], after, wanted, [*widths, answered[0][-1][2].width], answered)

    def behind(self, trees, conditions, widths, asked):
        one, two = trees
        width = self.programs[0][one[1]][3]
        answer = self.store.input(width, len(widths))
        answered = []
        for which, node in enumerate(trees):
            args = [self.terms[which][arg] for arg in node[2]]
            conditions = (*conditions, *self.added(which, node[1], args, answer, asked[which]))
            answered.append((*asked[which], (node[1], args, answer)))
        return (one[3], two[3]), conditions, tuple(answered)

    def can_hold(self, conditions, widths):
        """Whether all conditions hold for some words."""
        for words in product(*[range(power(width)) for width in widths]):
            known = {}
            if all(value(condition, words, known) for condition in conditions):
                return True
        return False

    def is_there(self, trees=None, conditions=(), widths=None, asked=((), ())):
        """Whether there is a right paper: a side is shut exactly where the conditions cannot hold."""
        trees, widths = trees or self.trees, self.widths if widths is None else widths
        one, two = trees
        for which in (0, 1):
            node = trees[which]
            if node[0] in ("look", "loop"):
                term = self.terms[which][node[2]]
                for side, condition in ((node[3], term), (node[4], self.store.make("not", 1, term))):
                    wanted = (*conditions, condition)
                    after = (side, two) if which == 0 else (one, side)
                    if self.can_hold(wanted, widths) and not self.is_there(after, wanted, widths, asked):
                        return False
                return True
        if one[0] == two[0] == "ask":
            if not self.heads_fit(one, two):
                return False
            if any(self.can_hold((*conditions, self.differing(*pair)), widths) for pair in zip(one[2], two[2])):
                return False
            after, wanted, answered = self.behind(trees, conditions, widths, asked)
            return self.is_there(after, wanted, [*widths, answered[0][-1][2].width], answered)
        if one[0] != "end" or two[0] != "end":
            return False
        if one[1][0] == two[1][0] == "returns":
            return not self.can_hold((*conditions, self.differing(one[1][1], two[1][1])), widths)
        return one[1] == two[1] and one[1][0] in ("raises", "endless")
