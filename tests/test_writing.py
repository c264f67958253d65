import unittest

from helping import name, read_expr, word
from making import made_program
from metorshut.errors import BadText
from metorshut.reading import read_program
from metorshut.tokens import tokens_of
from metorshut.writing import text_of, write_expr, write_program

A, B, C, D = name("a"), name("b"), name("c"), name("d")
LEVELS = {"|": 1, "^": 2, "&": 3, "==": 4, "!=": 4, "<": 4, "<=": 4, "<<": 5, ">>": 5, "+": 6, "-": 6, "*": 7}


def read_or_none(tokens):
    try:
        return read_program(" ".join(tokens))
    except BadText:
        return None


class Exprs(unittest.TestCase):
    def both(self, tree, text):
        self.assertEqual(write_expr(tree), text)
        self.assertEqual(read_expr(text), tree)

    def test_bottoms(self):
        self.both(A, "a")
        self.both(word(7, 8), "7 # 8")
        self.both(("null",), "null")
        self.both(("field", "a", "b"), "a . b")
        self.both(("item", "a", ("|", A, B)), "a [ a | b ]")
        self.both(("pick", ("|", A, B), ("==", A, B), C), "pick ( a | b , a == b , c )")
        self.both(("wide", ("|", A, B), 8), "wide ( a | b , 8 )")
        self.both(("div", ("|", A, B), ("neg", C)), "div ( a | b , - c )")
        self.both(("rem", A, ("rem", B, C)), "rem ( a , rem ( b , c ) )")

    def test_each_operator_beside_each_other_one(self):
        for op, level in LEVELS.items():
            for other, inner in LEVELS.items():
                left = (op, (other, A, B), C)
                if inner > level or inner == level != 4:
                    self.both(left, f"a {other} b {op} c")
                else:
                    self.both(left, f"( a {other} b ) {op} c")
                right = (op, A, (other, B, C))
                if inner > level:
                    self.both(right, f"a {op} b {other} c")
                else:
                    self.both(right, f"a {op} ( b {other} c )")

    def test_signs_in_front(self):
        for op in LEVELS:
            self.both(("neg", (op, A, B)), f"- ( a {op} b )")
            self.both((op, ("neg", A), ("not", B)), f"- a {op} ~ b")
        self.both(("not", ("neg", ("not", A))), "~ - ~ a")
        self.both(("not", ("item", "a", B)), "~ a [ b ]")
        self.both(("neg", word(1, 8)), "- 1 # 8")
        self.both(("not", ("pick", A, B, C)), "~ pick ( a , b , c )")

    def test_deeper_ones(self):
        self.both(("*", ("neg", ("+", A, B)), ("|", C, D)), "- ( a + b ) * ( c | d )")
        self.both(("&", ("==", A, B), ("==", C, D)), "a == b & c == d")
        self.both(("==", ("==", A, B), ("==", C, D)), "( a == b ) == ( c == d )")
        self.both(("==", ("&", A, B), ("+", C, D)), "( a & b ) == c + d")
        self.both(("|", ("|", A, ("|", B, C)), D), "a | ( b | c ) | d")

    def test_deep_trees(self):
        tree = A
        for _ in range(56):
            tree = ("+", tree, B)
        self.both(tree, "a" + " + b" * 56)
        tree = A
        for _ in range(18):
            tree = ("-", B, tree)
        self.both(tree, "b - ( " * 17 + "b - a" + " )" * 17)


class Declarations(unittest.TestCase):
    def both(self, text):
        program = read_program(text)
        self.assertEqual(write_program(program), text)
        return program

    def test_nothing(self):
        self.assertEqual(write_program(()), "")

    def test_records(self):
        self.both("record box {\n}\n")
        self.both("record box {\nv : 8 ;\nn : box ;\n}\n")

    def test_externals(self):
        self.both("external ask ( ) : 2 needs 1 # 1 gives result == 0 # 2 ;\n")
        self.both("external ask ( a : 1 , b : box ) : 2 steady needs a gives b ;\n")

    def test_functions(self):
        self.both("function f ( ) : 8 {\n}\n")
        self.both("entry function f ( a : 1 , b : box ) : box {\nvar c : 8 ;\nvar d : 4 [ 3 ] ;\nvar e : box ;\n}\n")

    def test_statements(self):
        head, end = "function f ( ) : 8 {\n", "}\n"
        for body in (
            "let a = b ;\n", "let a [ b ] = c ;\n", "let a . b = null ;\n", "make a = box ;\n",
            "call f ( ) ;\n", "call a = f ( a | b , c ) ;\n", "return a ;\n", "raise x ;\n", "assert a == b ;\n",
            "if a {\n}\n", "if a {\nraise x ;\n}\nelse {\nraise y ;\n}\n", "if a {\n}\nelse {\nraise y ;\n}\n",
            "while a {\n}\n", "while a {\nwhile b {\nraise x ;\n}\n}\n",
            "try {\n}\ncatch a {\n}\n", "try {\nraise a ;\n}\ncatch a {\nraise b ;\n}\ncatch b {\n}\n",
        ):
            self.both(head + body + end)

    def test_else_only_if_it_is_not_empty(self):
        program = read_program("function f ( ) : 8 { if a { } else { } }")
        self.assertEqual(write_program(program), "function f ( ) : 8 {\nif a {\n}\n}\n")

    def test_several_declarations(self):
        one, two = "record a {\n}\n", "function b ( ) : 1 {\n}\n"
        program = self.both(one + two)
        self.assertEqual(text_of(program[0]), one)
        self.assertEqual(text_of(program[1]), two)

    def test_text_of_is_the_text_of_a_program_alone(self):
        for seed in range(30):
            program = made_program(seed)
            self.assertEqual("".join([text_of(one) for one in program]), write_program(program))

    def test_deep_blocks(self):
        body = ()
        for _ in range(27):
            body = (("if", A, body, ()),)
        program = (("function", "f", (), 8, 0, (), body),)
        self.assertEqual(read_program(write_program(program)), program)


class Random(unittest.TestCase):
    def test_reading_gives_the_tree_back(self):
        for seed in range(400):
            program = made_program(seed)
            self.assertEqual(read_program(write_program(program)), program)

    def test_blanks_and_line_feeds(self):
        for seed in range(50):
            text = write_program(made_program(seed))
            tokens = tokens_of(text)
            wanted = "".join([token + ("\n" if token in "{};" else " ") for token in tokens])
            self.assertEqual(text, wanted)
            self.assertTrue(text.endswith(("}\n", ";\n")))

    def test_no_parentheses_can_be_left_out(self):
        for seed in range(120):
            program = made_program(seed)
            tokens = list(tokens_of(write_program(program)))
            for begin, end in pairs_of(tokens):
                rest = tokens[:begin] + tokens[begin + 1:end] + tokens[end + 1:]
                self.assertNotEqual(read_or_none(rest), program, " ".join(tokens))


def pairs_of(tokens):
    """The places of parentheses that belong together."""
    found, waiting = [], []
    for at, token in enumerate(tokens):
        if token == "(":
            waiting.append(at)
        elif token == ")":
            found.append((waiting.pop(), at))
    return found


if __name__ == "__main__":
    unittest.main()
