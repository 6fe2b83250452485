"""Promise 18, and promises 2, 3 and 4 for the functions of mending."""

import itertools
import unittest

from selvage.best import best
from selvage.judge import amount
from selvage.mending import mended_best, mends
from selvage.rolls import changed
from trying import FULL, LONG, TABLES, TOP, WIDE, check_lists, greatest, mixed, small_rolls

TABLE = [("b", 2, 5, 1), ("a", 1, 2, 0), ("abc", 3, 9, 4)]


def mended(roll, cells):
    for cell in cells:
        roll = changed(roll, cell, 0)
    return roll


def mends_tried(roll, kind, place):
    piece = range(place, place + kind[1])
    for count in range(kind[1] + 1):
        for cells in itertools.combinations(piece, count):
            if sum(roll[cell] for cell in piece if cell not in cells) <= kind[3]:
                return count
    raise AssertionError("a clean piece fits")


def mended_tried(roll, table, most):
    return max(
        greatest(mended(roll, cells), table)
        for count in range(min(most, len(roll)) + 1)
        for cells in itertools.combinations(range(len(roll)), count)
    )


def mended_reckoned(roll, table, most):
    """For long rolls, place by place from the other side."""
    tails = [[0] * (most + 1)]
    for begin in range(len(roll) - 1, -1, -1):
        row = list(tails[0])
        for kind in table:
            if begin + kind[1] <= len(roll):
                weights = sorted(roll[begin:begin + kind[1]])
                count = 0
                while sum(weights) > kind[3]:
                    weights.pop()
                    count += 1
                for left in range(count, most + 1):
                    row[left] = max(row[left], kind[2] + tails[kind[1] - 1][left - count])
        tails.insert(0, row)
    return tails[0][most]


class TestMends(unittest.TestCase):
    def told(self, roll, kind, place, number):
        self.assertEqual(mends(roll, kind, place), number, (roll, kind, place))
        self.assertIs(type(mends(roll, kind, place)), int)

    def test_ordinary(self):
        kind = ("a", 3, 1, 4)
        self.told([1, 1, 1, 5, 2], kind, 0, 0)
        self.told([1, 1, 1, 5, 2], kind, 1, 1)
        self.told([1, 1, 1, 5, 2], kind, 2, 1)
        self.told([5, 5, 5], kind, 0, 3)
        self.told([4, 5, 5], kind, 0, 2)

    def test_just_allowed(self):
        for allowed in (0, 1, 7, TOP - 1):
            self.told([allowed, 0], ("a", 2, 1, allowed), 0, 0)
            self.told([allowed, 1], ("a", 2, 1, allowed), 0, 1)
            self.told([allowed + 1, 0], ("a", 2, 1, allowed), 0, 1)
            self.told([allowed + 1] * 2, ("a", 2, 1, allowed), 0, 2)

    def test_cells_outside_do_not_count(self):
        self.told([TOP, 0, 0, TOP], ("a", 2, 1, 0), 1, 0)
        self.told([TOP, 0, 0, TOP], ("a", 2, 1, 0), 0, 1)
        self.told([TOP, 0, 0, TOP], ("a", 2, 1, 0), 2, 1)

    def test_against_trying(self):
        for roll in small_rolls(5, (0, 1, 2, 4)):
            for width, allowed in itertools.product((1, 2, 3, 4), (0, 1, 3, 6)):
                kind = ("a", width, 1, allowed)
                for place in range(-2, 7):
                    if 0 <= place and place + width <= len(roll):
                        self.told(roll, kind, place, mends_tried(roll, kind, place))
                    else:
                        self.assertIsNone(mends(roll, kind, place))

    def test_not_within_the_roll(self):
        for width in (1, 3, 8, 9, 200):
            kind = ("a", width, 1, TOP - 1)
            for place in (-WIDE, -TOP, -200, -8, -3, -1, 8, 9, 200, TOP, WIDE):
                self.assertIsNone(mends([0] * 8, kind, place))
            self.assertIsNone(mends([0] * 8, kind, 8 - width + 1))
            self.assertIsNone(mends([], kind, 0))
        self.told([0] * 8, ("a", 8, 1, 0), 0, 0)

    def test_two_hundred_cells(self):
        self.told(list(range(200)), ("a", 200, 1, 0), 0, 199)
        self.told([TOP] * 200, ("a", 200, 1, TOP - 1), 0, 200)
        self.told([1] * 200, ("a", 200, 1, 150), 0, 50)
        self.told([0] * 200, ("a", 200, 1, 0), 0, 0)


class TestMendedBest(unittest.TestCase):
    def right(self, roll, table, most, worth):
        told = mended_best(roll, table, most)
        self.assertIs(type(told), tuple)
        self.assertEqual(len(told), 3)
        self.assertEqual(told[0], worth, (roll, table, most))
        cells, cutting = told[1], told[2]
        self.assertIs(type(cells), list)
        self.assertIs(type(cutting), list)
        self.assertEqual(cells, sorted(set(cells)))
        self.assertLessEqual(len(cells), most)
        self.assertEqual(amount(mended(roll, cells), table, cutting), worth)
        widths = {kind[0]: kind[1] for kind in table}
        for cell in cells:
            self.assertIs(type(cell), int)
            self.assertNotEqual(roll[cell], 0)
            self.assertTrue(any(place <= cell < place + widths[name] for place, name in cutting))

    def test_ordinary(self):
        self.assertEqual(mended_best([5, 0, 0], [("b", 3, 5, 1)], 1), (5, [0], [(0, "b")]))
        self.assertEqual(mended_best([5, 0, 6], [("b", 3, 5, 5)], 1), (5, [2], [(0, "b")]))
        self.assertEqual(mended_best([5, 0, 6], [("b", 3, 5, 4)], 1), (0, [], []))
        self.assertEqual(mended_best([5, 0, 6], [("b", 3, 5, 4)], 2), (5, [0, 2], [(0, "b")]))
        self.assertEqual(mended_best([7, 0, 7], [("b", 1, 5, 0)], 3), (15, [0, 2], [(0, "b"), (1, "b"), (2, "b")]))

    def test_against_trying(self):
        for table in TABLES:
            for roll in list(small_rolls(4)) + [mixed(seed, 6, (0, 1, 1, 3)) for seed in range(6)]:
                for most in range(len(roll) + 2):
                    self.right(roll, table, most, mended_tried(roll, table, most))

    def test_where_to_spend_few(self):
        table = [("a", 2, 4, 1), ("b", 3, 7, 2), ("c", 1, 1, 0)]
        for roll in small_rolls(6, (0, 2, 5)):
            if len(roll) == 6:
                self.right(roll, table, 2, mended_tried(roll, table, 2))

    def test_none_to_mend(self):
        for table in TABLES:
            for roll in small_rolls(4):
                self.right(roll, table, 0, best(roll, table)[0])
                self.assertEqual(mended_best(roll, table, 0)[1], [])

    def test_below_nought_nothing_is_refused(self):
        self.assertEqual(mended_best([5, 0], TABLE, -1), (2, [], [(1, "a")]))

    def test_as_many_as_cells_and_more(self):
        for table in TABLES:
            for roll in small_rolls(4):
                for most in (len(roll), len(roll) + 1, 203, TOP, WIDE):
                    self.right(roll, table, most, best([0] * len(roll), table)[0])

    def test_without_cells_and_without_kinds(self):
        for table in TABLES + (FULL,):
            for most in (0, 1, 200, WIDE):
                self.assertEqual(mended_best([], table, most), (0, [], []))
        for roll in ([0], [5, TOP], [3] * 60):
            for most in (0, 1, 60, 61, WIDE):
                self.assertEqual(mended_best(roll, [], most), (0, [], []))

    def test_sixty_cells(self):
        ones = [("a", 1, TOP, 0)]
        for most in (0, 1, 30, 59, 60):
            self.right([1] * 60, ones, most, most * TOP)
        for most in (61, WIDE):
            self.right([1] * 60, ones, most, 60 * TOP)
        self.right([TOP] * 60, [("a", 60, 7, TOP - 1)], 59, 0)
        self.right([TOP] * 60, [("a", 60, 7, TOP - 1)], 60, 7)
        for roll in (LONG[:60], [weight + 1 for weight in LONG[60:120]], mixed(8, 60, (0, 3, 5, 9))):
            for most in (0, 1, 2, 5, 17, 41, 59, 60):
                self.right(roll, FULL, most, mended_reckoned(roll, FULL, most))
            for most in (61, 203, WIDE):
                self.right(roll, FULL, most, best([0] * 60, FULL)[0])


class TestWhoseLists(unittest.TestCase):
    def test_all(self):
        for roll in ([], [3], [0, 1, 3, 0, 5], LONG[:60]):
            for place in (-1, 0, 2):
                check_lists(self, mends, roll, TABLE[0], place)
            for table in (TABLE, [], FULL):
                for most in (0, 1, 3, WIDE):
                    check_lists(self, mended_best, roll, table, most)


if __name__ == "__main__":
    unittest.main()
