import unittest

from metorshut.tokens import RESERVED, is_name, is_number, tokens_of


class Tokens(unittest.TestCase):
    def test_nothing(self):
        self.assertEqual(tokens_of(""), ())
        self.assertEqual(tokens_of(" \n  \n"), ())

    def test_gaps(self):
        self.assertEqual(tokens_of("let x=1#8;"), ("let", "x", "=", "1", "#", "8", ";"))
        self.assertEqual(tokens_of(" let\nx\n\n=  1 # 8 ;\n"), ("let", "x", "=", "1", "#", "8", ";"))
        self.assertEqual(tokens_of("a\nb"), ("a", "b"))

    def test_the_longest_one_that_fits(self):
        self.assertEqual(tokens_of("==="), ("==", "="))
        self.assertEqual(tokens_of("===="), ("==", "=="))
        self.assertEqual(tokens_of("<<="), ("<<", "="))
        self.assertEqual(tokens_of("<=="), ("<=", "="))
        self.assertEqual(tokens_of("<<<"), ("<<", "<"))
        self.assertEqual(tokens_of("<=<"), ("<=", "<"))
        self.assertEqual(tokens_of(">>>"), (">>", ">"))
        self.assertEqual(tokens_of("!=="), ("!=", "="))
        self.assertEqual(tokens_of("!!="), ("!", "!="))
        self.assertEqual(tokens_of(">="), (">", "="))
        self.assertEqual(tokens_of("=>"), ("=", ">"))
        self.assertEqual(tokens_of("= ="), ("=", "="))

    def test_each_sign(self):
        signs = "{ } ( ) [ ] , ; : . # = == != < <= << >> ~ - + * & | ^"
        self.assertEqual(tokens_of(signs), tuple(signs.split()))
        for sign in signs.split():
            self.assertEqual(tokens_of("a" + sign + "1"), ("a", sign, "1"))

    def test_runs(self):
        self.assertEqual(tokens_of("aB9z 9aZ Az0 letx"), ("aB9z", "9aZ", "Az0", "letx"))
        self.assertEqual(tokens_of("abcdefghijk"), ("abcdefghijk",))
        self.assertEqual(tokens_of("x.y1#22"), ("x", ".", "y1", "#", "22"))

    def test_other_characters(self):
        others = "!\"$%'/>?@\\_`"
        self.assertEqual(tokens_of(others), tuple(others))
        self.assertEqual(tokens_of("a_b"), ("a", "_", "b"))
        self.assertEqual(tokens_of("//"), ("/", "/"))

    def test_names(self):
        for token in ("a", "z", "a1", "abcdefgh", "a2345678", "result", "not", "neg", "word", "name", "index"):
            self.assertTrue(is_name(token), token)
        for token in ("", "1", "1a", "A", "aB", "abcdefghi", "_", "a_", "-", *RESERVED):
            self.assertFalse(is_name(token), token)
        self.assertEqual(len(RESERVED), 24)

    def test_numbers(self):
        for token in ("0", "1", "9", "10", "255", "200"):
            self.assertTrue(is_number(token), token)
        for token in ("", "00", "01", "256", "1000", "001", "a", "1a", "0a", "-1", "-", "99999999999"):
            self.assertFalse(is_number(token), token)


if __name__ == "__main__":
    unittest.main()
