"""The leaves of books (points 29, 31 and 32)."""

from metorshut.programs import declared
from metorshut.sheets import Sheet
from metorshut.tables import Tables, both, is_empty, least_in, without
from metorshut.termreckoning import Terms
from metorshut.values import value_of


def leaves_of(program, book):
    """The leaves of a taken book, in the order of its tree."""
    walk = TreeWalk(program, book)
    walk.go()
    return tuple(walk.leaves)


def replayed(book, args, answers):
    """The ways, what was asked, and the outcome of the way that an input goes in the tree of a taken book."""
    _, _, _, rows, tree = book
    given = 0
    ways = []
    asked = []
    while tree[0] != "end":
        words = args + answers[:given]
        if tree[0] == "ask":
            ask = (tree[1], tuple([value_of(rows, words, term) for term in tree[2]]))
            if given == len(answers):
                return tuple(ways), tuple(asked), ("asks", *ask)
            asked.append(ask)
            given += 1
            tree = tree[3]
        else:
            bit = value_of(rows, words, tree[2])
            if tree[0] == "look":
                ways.append(tree[1] + (bit,))
            tree = tree[3] if bit == 1 else tree[4]
    return tuple(ways), tuple(asked), outcome_with(rows, args + answers[:given], tree[1])


def outcome_with(rows, words, outcome):
    """An outcome with the word in the place of the term."""
    if outcome[0] == "returns":
        return "returns", value_of(rows, words, outcome[1])
    return outcome


class Path:
    """The way to a place in a tree: its looks and asks, and the widths and the mask of the inputs that go there."""

    def __init__(self, ways, asked, widths, mask):
        self.ways = ways
        # Triples (external, args, answer) of terms.
        self.asked = asked
        self.widths = widths
        self.mask = mask


class TreeWalk:
    """Goes all ways in a tree that some input goes, and gathers the leaves."""

    def __init__(self, program, book):
        _, widths, _, rows, tree = book
        self.program = program
        self.tree = tree
        self.widths = widths
        self.sheet = Sheet(rows)
        self.terms = Terms(self.sheet)
        self.tables = Tables(self.sheet.rows, sum(widths) + bits_asked(program, tree))
        self.leaves = []
        # The outcomes of the leaves, with terms.
        self.ends = []

    def go(self):
        """Gather the leaves; what is left of the tree without the sides to which no input goes."""
        return self.branch(self.tree, Path((), (), self.widths, self.tables.all_inputs()))

    def branch(self, tree, path):
        """What is left of a part of the tree.

        For an end it is its number, for a node of which one side is left what
        is left of this side, for another node (term, yes, no).
        """
        if tree[0] == "end":
            self.add_leaf(tree[1], path)
            return len(self.leaves) - 1
        if tree[0] == "ask":
            return self.branch(tree[3], self.path_behind(tree, path))
        holding = self.tables.holding(path.widths, tree[2])
        sides = [(1, tree[3], both(path.mask, holding)), (0, tree[4], without(path.mask, holding))]
        found = []
        for bit, side, mask in sides:
            if not is_empty(mask):
                ways = path.ways + (tree[1] + (bit,),) if tree[0] == "look" else path.ways
                found.append(self.branch(side, Path(ways, path.asked, path.widths, mask)))
        return (tree[2], *found) if len(found) == 2 else found[0]

    def path_behind(self, ask, path):
        """The path behind an ask."""
        _, name, args, _ = ask
        external = declared(self.program, name)
        answer = self.sheet.unknown(external[3], len(path.widths))
        earlier = [one[1:] for one in path.asked if one[0] == name]
        conditions = self.terms.answer_conditions(external, args, answer, earlier)
        widths = path.widths + (external[3],)
        mask = path.mask
        for term in conditions:
            mask = both(mask, self.tables.holding(widths, term))
        return Path(path.ways, path.asked + ((name, args, answer),), widths, mask)

    def add_leaf(self, outcome, path):
        """Add the leaf of an end."""
        rows = self.sheet.rows
        words = self.tables.words_at(path.widths, least_in(path.mask))
        asked = []
        for name, args, _ in path.asked:
            asked.append((name, tuple([value_of(rows, words, term) for term in args])))
        many = len(self.widths)
        tried = (words[:many], words[many:])
        self.leaves.append((tried, path.ways, tuple(asked), outcome_with(rows, words, outcome)))
        self.ends.append(outcome)


def bits_asked(program, tree):
    """The most bits of answers on a way in a tree."""
    most = 0
    waiting = [(tree, 0)]
    while waiting:
        part, bits = waiting.pop()
        most = max(most, bits)
        if part[0] == "ask":
            waiting.append((part[3], bits + declared(program, part[1])[3]))
        elif part[0] in ("look", "loop"):
            waiting.extend([(part[3], bits), (part[4], bits)])
    return most
