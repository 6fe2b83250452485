"""Promise 10, and promises 2, 3 and 4 for the function of judge."""

import itertools
import unittest

from selvage.judge import amount
from trying import FULL, LONG, TABLES, TOP, WIDE, check_lists, cuttings, small_cases, small_rolls, worth_of

TABLE = [("b", 2, 5, 1), ("a", 1, 2, 0), ("abc", 3, 9, 4)]
ROLL = [0, 1, 0, 0, 3, 0, 0, 0]


class TestAmount(unittest.TestCase):
    def worth(self, cutting, worth, roll=ROLL, table=TABLE):
        told = amount(roll, table, cutting)
        self.assertEqual(told, worth, cutting)
        self.assertIs(type(told), int)

    def none(self, cutting, roll=ROLL, table=TABLE):
        self.assertIsNone(amount(roll, table, cutting), cutting)

    def test_ordinary(self):
        self.worth([(0, "b"), (2, "a"), (3, "abc"), (6, "b")], 21)
        self.worth([(0, "abc"), (5, "abc")], 18)
        self.worth([(7, "a")], 2)

    def test_without_pieces(self):
        self.worth([], 0)
        self.worth([], 0, roll=[])
        self.worth([], 0, table=[])
        self.worth([], 0, roll=[], table=[])
        self.worth([], 0, roll=[TOP] * 200, table=FULL)

    def test_piece_too_spoilt(self):
        self.worth([(0, "b")], 5, roll=[0, 1])
        self.none([(0, "b")], roll=[1, 1])
        self.worth([(0, "abc")], 9, roll=[4, 0, 0])
        self.none([(0, "abc")], roll=[4, 0, 1])
        self.none([(1, "a")])
        self.none([(0, "a"), (4, "a")])
        self.none([(4, "a"), (5, "a")])

    def test_places_out_of_the_roll(self):
        for place in (-WIDE, -TOP, -9, -8, -3, -1, 8, 9, 200, 203, TOP, WIDE):
            for name in ("a", "b", "abc"):
                self.none([(place, name)])
                self.none([(0, "b"), (place, name)])
                self.none([(place, name), (6, "b")])

    def test_behind_the_end(self):
        self.worth([(6, "b")], 5)
        self.none([(7, "b")])
        self.worth([(5, "abc")], 9)
        self.none([(6, "abc")])
        self.none([(0, "a")], roll=[])

    def test_names_of_no_kind(self):
        for name in ("", "A", "B", "ABC", "Abc", " a", "a ", "a b", "ab", "abcd", "ba", "c", "0", "~", "a" * 203):
            for place in (-WIDE, -1, 0, 2, 7, 8, WIDE):
                self.none([(place, name)])
            self.none([(0, "b"), (2, name)])
            self.none([(2, name), (6, "b")])
        self.none([(0, "a")], table=[])

    def test_side_by_side(self):
        for first in range(-2, 9):
            for second in range(-2, 9):
                cutting = [(first, "abc"), (second, "abc")]
                if 0 <= first and first + 3 <= second <= 5:
                    self.worth(cutting, 18, roll=[0] * 8)
                else:
                    self.none(cutting, roll=[0] * 8)

    def test_ahead_at_and_behind_the_end_of_the_one_ahead(self):
        roll = [0] * 9
        self.none([(1, "abc"), (3, "b")], roll=roll)
        self.worth([(1, "abc"), (4, "b")], 14, roll=roll)
        self.worth([(1, "abc"), (5, "b")], 14, roll=roll)
        self.none([(1, "a"), (2, "abc"), (4, "a")], roll=roll)
        self.worth([(1, "a"), (2, "abc"), (5, "a")], 13, roll=roll)

    def test_falling_order(self):
        self.worth([(2, "a"), (3, "a")], 4)
        self.none([(3, "a"), (2, "a")])
        self.none([(6, "b"), (0, "b")])
        self.none([(0, "b"), (6, "b"), (2, "a")])

    def test_same_piece_twice(self):
        for name in ("a", "b", "abc"):
            self.none([(5, name), (5, name)])
        self.none([(0, "b"), (2, "a"), (2, "a")])

    def test_the_very_lists_that_are_cuttings(self):
        for table in TABLES:
            pieces = [(place, kind[0]) for place in range(-1, 4) for kind in table]
            for roll in small_rolls(3):
                good = cuttings(roll, table)
                for length in range(3):
                    for some in itertools.product(pieces, repeat=length):
                        told = amount(roll, table, list(some))
                        self.assertEqual(told, worth_of(table, some) if list(some) in good else None)

    def test_all_cuttings(self):
        for roll, table in small_cases():
            for cutting in cuttings(roll, table):
                self.assertEqual(amount(roll, table, cutting), worth_of(table, cutting))

    def test_long(self):
        ones = [("a", 1, TOP, 0)]
        self.worth([(place, "a") for place in range(200)], 200 * TOP, roll=[0] * 200, table=ones)
        self.none([(place, "a") for place in range(201)], roll=[0] * 200, table=ones)
        self.none([(0, "a")] * 203, roll=[0] * 200, table=ones)
        self.worth([(0, "a")], 1001, roll=[0] * 200, table=FULL)
        self.worth([(0, "a"), (100, "a")], 2002, roll=[0] * 200, table=FULL)
        self.none([(0, "a"), (101, "a")], roll=[0] * 200, table=FULL)


class TestWhoseLists(unittest.TestCase):
    def test_amount(self):
        for cutting in ([], [(0, "b"), (2, "a")], [(2, "a"), (0, "b")], [(0, "q")]):
            check_lists(self, amount, ROLL, TABLE, cutting)
        check_lists(self, amount, LONG, FULL, [(0, "h")])


if __name__ == "__main__":
    unittest.main()
