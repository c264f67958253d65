import unittest

from metorshut.programs import declared, entries_of
from metorshut.reading import read_program

TEXT = """
record box { v : 8 ; }
function help ( ) : 1 { }
entry function two ( ) : 1 { }
external ask ( ) : 1 needs 1#1 gives 1#1 ;
entry function one ( ) : 1 { }
"""


class Programs(unittest.TestCase):
    def test_entries_in_order(self):
        self.assertEqual(entries_of(read_program(TEXT)), ("two", "one"))
        self.assertEqual(entries_of(()), ())
        self.assertEqual(entries_of(read_program("record box { }")), ())

    def test_declared(self):
        program = read_program(TEXT)
        for one in program:
            self.assertEqual(declared(program, one[1]), one)


if __name__ == "__main__":
    unittest.main()
