import doctest
import unittest
from pathlib import Path

README = Path(__file__).resolve().parent.parent / "README.md"


class Readme(unittest.TestCase):
    def test_its_examples(self):
        told = doctest.testfile(str(README), module_relative=False)
        self.assertEqual((told.failed, told.attempted), (0, 51))


if __name__ == "__main__":
    unittest.main()
