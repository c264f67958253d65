import unittest

from helping import error_of
from metorshut.bounds import BOUNDS, check_bounds


class Bounds(unittest.TestCase):
    def test_the_usual_ones(self):
        self.assertEqual(BOUNDS, (24, 4, 4, 8))
        self.assertIsNone(check_bounds(BOUNDS))

    def test_each_edge(self):
        least, greatest = (1, 1, 0, 0), (32, 8, 8, 12)
        self.assertIsNone(check_bounds(least))
        self.assertIsNone(check_bounds(greatest))
        for at in range(4):
            for bounds, over in ((least, least[at] - 1), (greatest, greatest[at] + 1)):
                wrong = bounds[:at] + (over,) + bounds[at + 1:]
                self.assertEqual(error_of(check_bounds, wrong), ("BadBounds",), wrong)
            for edge in (least[at], greatest[at]):
                self.assertIsNone(check_bounds(BOUNDS[:at] + (edge,) + BOUNDS[at + 1:]))

    def test_what_is_no_bounds(self):
        for wrong in (
            None, True, False, 24, "24", "abcd", (), (24,), (24, 4, 4), (24, 4, 4, 8, 1), [24, 4, 4, 8],
            {0: 24, 1: 4, 2: 4, 3: 8}, {24, 4, 5, 8}, range(1, 5),
        ):
            self.assertEqual(error_of(check_bounds, wrong), ("BadBounds",), wrong)

    def test_what_is_no_integer(self):
        for at in range(4):
            for part in (True, False, None, "4", (4,), [4], 4.0, b"4"):
                wrong = BOUNDS[:at] + (part,) + BOUNDS[at + 1:]
                self.assertEqual(error_of(check_bounds, wrong), ("BadBounds",), wrong)


if __name__ == "__main__":
    unittest.main()
