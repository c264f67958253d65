"""What exprs come to.

A worth is a pair (width, word); a reference has the width 0, and the number
of its object or None in the place of the word. Cells tell the worth of each
variable, and for an array a pair (width, words). Objects are dicts of worths.
"""

from metorshut.words import RELATIONS, result

NOTHING = (0, None)


class Words:
    """Reckons with words, for runs. What reckons with something in their place has its own last four methods."""

    def blank(self, kind):
        """The worth with which a variable or a field of this kind begins."""
        return (kind, self.word(kind, 0)) if isinstance(kind, int) else NOTHING

    def worth(self, expr, cells, objects):
        """The worth of an expr all of whose looks go way 1."""
        op = expr[0]
        if op == "name":
            return cells[expr[1]]
        if op == "word":
            return expr[2], self.word(expr[2], expr[1])
        if op == "null":
            return NOTHING
        if op == "item":
            return self.item(cells[expr[1]], self.worth(expr[2], cells, objects))
        if op == "field":
            return objects[cells[expr[1]][1]][expr[2]]
        if op == "wide":
            return expr[2], self.make(op, expr[2], [self.worth(expr[1], cells, objects)])
        return self.joined(op, [self.worth(part, cells, objects) for part in expr[1:]])

    def joined(self, op, parts):
        """The worth of an operation on worths."""
        if op in RELATIONS:
            if parts[0][0] == 0:
                return 1, self.word(1, 1 if (parts[0] == parts[1]) == (op == "==") else 0)
            return 1, self.make(op, 1, parts)
        # The last operand of a pick has the width of its result; that of a shift has not.
        width = parts[1][0] if op == "pick" else parts[0][0]
        return width, self.make(op, width, parts)

    def condition(self, condition, cells, objects):
        """What the condition of a look comes to, as of width 1."""
        word = condition[0]
        if word == "there":
            return self.word(1, 0 if cells[condition[1]] == NOTHING else 1)
        found = self.worth(condition[1], cells, objects)
        if word == "is":
            return found[1]
        width = found[0]
        if word == "some":
            return self.make("not", 1, [(1, self.make("==", 1, [found, (width, self.word(width, 0))]))])
        length = condition[2]
        if length >= 1 << width:
            return self.word(1, 1)
        return self.make("<", 1, [found, (width, self.word(width, length))])

    def store(self, cells, place, found, objects):
        """Store a worth in a place all of whose looks go way 1."""
        name = place[1]
        if place[0] == "name":
            cells[name] = found
        elif place[0] == "field":
            objects[cells[name][1]][place[2]] = found
        else:
            cells[name] = self.stored(cells[name], self.worth(place[2], cells, objects), found)

    def word(self, width, value):
        """What stands for a word."""
        return value

    def make(self, op, width, parts):
        """What an operation on worths gives; the width is that of the result."""
        words = [part[1] for part in parts]
        return result(op, width if op in ("wide", "pick") else parts[0][0], *words)

    def item(self, array, index):
        """The worth of an item of an array."""
        width, words = array
        return width, words[index[1]]

    def stored(self, array, index, found):
        """The array behind the storing of an item."""
        width, words = array
        at = index[1]
        return width, words[:at] + (found[1],) + words[at + 1:]
