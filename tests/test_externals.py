import unittest

from metorshut.externals import let_answers, unmet
from metorshut.reading import read_program


def external(text):
    return read_program("external ask " + text + " ;")[0]


class Unmet(unittest.TestCase):
    def test_all_is_met(self):
        self.assertIsNone(unmet(external("( ) : 1 needs 1#1 gives 1#1")))
        self.assertIsNone(unmet(external("( a : 3 , b : 3 ) : 3 needs a < b gives result == a")))
        self.assertIsNone(unmet(external("( a : 2 ) : 1 needs a < 2#2 gives wide ( result , 2 ) == a")))
        self.assertIsNone(unmet(external("( a : 2 ) : 1 needs 0#1 gives 0#1")))
        self.assertIsNone(unmet(external("( ) : 1 needs 0#1 gives 0#1")))

    def test_the_least_words(self):
        self.assertEqual(unmet(external("( a : 2 ) : 1 needs 1#1 gives wide ( result , 2 ) == a")), (2,))
        self.assertEqual(unmet(external("( a : 2 , b : 2 ) : 1 needs a != b gives a < b")), (1, 0))
        self.assertEqual(unmet(external("( a : 2 , b : 2 ) : 1 needs a == b gives a < b")), (0, 0))
        self.assertEqual(unmet(external("( a : 1 , b : 2 , c : 3 ) : 1 needs a gives c != 7#3 | b != 3#2")), (1, 3, 7))
        self.assertEqual(unmet(external("( a : 6 ) : 3 needs a == 63#6 gives wide ( result , 6 ) == a")), (63,))

    def test_without_parameters(self):
        self.assertEqual(unmet(external("( ) : 1 needs 1#1 gives 0#1")), ())
        self.assertEqual(unmet(external("( ) : 2 needs 1#1 gives result < 0#2")), ())

    def test_a_steady_one_is_no_other(self):
        self.assertIsNone(unmet(external("( a : 1 ) : 1 steady needs 1#1 gives result == a")))
        self.assertEqual(unmet(external("( a : 1 ) : 1 steady needs 1#1 gives result < a")), (0,))


class LetAnswers(unittest.TestCase):
    def test_what_is_given(self):
        ask = external("( a : 2 ) : 2 needs 1#1 gives result <= a")
        self.assertEqual(let_answers(ask, (0,), ()), (0,))
        self.assertEqual(let_answers(ask, (2,), ()), (0, 1, 2))
        self.assertEqual(let_answers(ask, (3,), ()), (0, 1, 2, 3))
        self.assertEqual(let_answers(external("( ) : 3 needs 1#1 gives result & 1#3 == 1#3"), (), ()), (1, 3, 5, 7))

    def test_each_operation(self):
        for gives, wanted in (
            ("~ result == 3#3", (4,)), ("- result == 3#3", (5,)), ("result + 1#3 == 0#3", (7,)),
            ("result - 1#3 == 7#3", (0,)), ("result * 3#3 == 1#3", (3,)),
            ("( result | 6#3 ) == 7#3", (1, 3, 5, 7)), ("( result ^ 5#3 ) == 0#3", (5,)),
            ("result << 2#2 == 4#3", (1, 3, 5, 7)), ("result >> 1#8 == 3#3", (6, 7)), ("result != 0#3 & result < 3#3", (1, 2)),
            ("wide ( result , 1 )", (1, 3, 5, 7)), ("wide ( result , 8 ) == 7#8", (7,)),
            ("pick ( result < 2#3 , 1#1 , result == 7#3 )", (0, 1, 7)),
        ):
            self.assertEqual(let_answers(external("( ) : 3 needs 1#1 gives " + gives), (), ()), wanted, gives)

    def test_one_that_is_not_steady_may_change(self):
        ask = external("( a : 1 ) : 1 needs 1#1 gives 1#1")
        self.assertEqual(let_answers(ask, (0,), (((0,), 1), ((0,), 0))), (0, 1))

    def test_a_steady_one_gives_the_same_again(self):
        ask = external("( a : 1 , b : 1 ) : 2 steady needs 1#1 gives 1#1")
        asked = (((0, 1), 2), ((1, 0), 3), ((0, 1), 2))
        self.assertEqual(let_answers(ask, (0, 1), asked), (2,))
        self.assertEqual(let_answers(ask, (1, 0), asked), (3,))
        self.assertEqual(let_answers(ask, (1, 1), asked), (0, 1, 2, 3))
        self.assertEqual(let_answers(ask, (0, 1), ()), (0, 1, 2, 3))

    def test_without_parameters(self):
        ask = external("( ) : 1 steady needs 1#1 gives 1#1")
        self.assertEqual(let_answers(ask, (), ()), (0, 1))
        self.assertEqual(let_answers(ask, (), (((), 1),)), (1,))

    def test_it_is_a_tuple(self):
        self.assertIs(type(let_answers(external("( ) : 1 needs 1#1 gives 1#1"), (), ())), tuple)


if __name__ == "__main__":
    unittest.main()
