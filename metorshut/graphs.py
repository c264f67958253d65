"""The graphs of functions (points 18 and 19)."""

from metorshut.programs import declared
from metorshut.spots import spots_of


def graph_of(program, name):
    """The graph of a function."""
    return Layout(program, declared(program, name)).graph()


class Layout:
    """The rows of a function's graph while they are put in their places.

    Statements are linked from the last one to the first one, so that each
    knows the row that comes behind it. Catches are dicts from a name to the
    row at which it is caught.
    """

    def __init__(self, program, function):
        self.externals = {one[1]: True for one in program if one[0] == "external"}
        self.spots, last = spots_of(function)
        self.rows = [None] * (last + 1)

    def graph(self):
        """The graph, made of all rows."""
        last = len(self.rows) - 1
        self.rows[last] = ("return", None)
        self.rows[0] = ("go", self.link_block(self.spots, last, {}))
        return "graph", tuple(self.rows)

    def link_block(self, spots, after, catches):
        """Put the rows of a block; the number of the row at which it begins."""
        for spot in reversed(spots):
            after = self.link(spot, after, catches)
        return after

    def link(self, spot, after, catches):
        """Put the rows of a statement; the number of the row at which it begins."""
        word = spot.statement[0]
        if word == "try":
            return self.link_try(spot, after, catches)
        if word in ("if", "while", "assert"):
            self.link_choice(spot, after, catches)
        else:
            at = spot.row + len(spot.looks)
            self.put_looks(spot, spot.row, spot.looks, catches)
            self.rows[at] = self.own_row(spot.statement, after, catches)
        return spot.row

    def link_try(self, spot, after, catches):
        """The same for a `try`, which has no rows of its own."""
        inner = dict(catches)
        for (name, _), block in zip(spot.statement[2], spot.blocks[1:]):
            inner[name] = self.link_block(block, after, catches)
        return self.link_block(spot.blocks[0], after, inner)

    def link_choice(self, spot, after, catches):
        """The same for a statement that ends with its own look."""
        word = spot.statement[0]
        first = spot.row
        number = spot.number + len(spot.looks) - 1
        if word == "while":
            self.rows[first] = ("loop", number, first + 1)
            first += 1
            yes, no = self.link_block(spot.blocks[0], spot.row, catches), after
        elif word == "if":
            yes = self.link_block(spot.blocks[0], after, catches)
            no = self.link_block(spot.blocks[1], after, catches)
        else:
            yes, no = after, catches.get("claim", "claim")
        self.put_looks(spot, first, spot.looks[:-1], catches)
        condition, _ = spot.looks[-1]
        self.rows[first + len(spot.looks) - 1] = ("look", number, condition, yes, no)

    def put_looks(self, spot, first, looks, catches):
        """Put the rows of looks that raise, from row first on."""
        for at, (condition, raised) in enumerate(looks):
            no = catches.get(raised, raised)
            self.rows[first + at] = ("look", spot.number + at, condition, first + at + 1, no)

    def own_row(self, statement, after, catches):
        """The row of a statement behind its looks."""
        word = statement[0]
        if word == "return":
            return statement
        if word == "raise":
            name = statement[1]
            return ("go", catches[name]) if name in catches else statement
        if word != "call":
            return (*statement, after)
        _, target, name, args = statement
        if name in self.externals:
            return "ask", target, name, args, after, catches.get("duty", "duty")
        return "call", target, name, args, after, tuple(sorted(catches.items()))
