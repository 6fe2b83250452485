"""Promises 11 and 12, what promise 5 says of the best cutting and of a roll turned about, and promise 3."""

import itertools
import unittest

from selvage.best import best, heights
from selvage.judge import amount
from selvage.rolls import turned
from trying import (
    FULL, LONG, TABLES, TOP, check_lists, greatest, small_cases, small_rolls, told_in_words,
)

LONG_ROLLS = ([0] * 200, [1] * 200, [TOP] * 200, LONG, LONG[::-1], list(range(200)))


class TestHeights(unittest.TestCase):
    def test_ordinary(self):
        table = [("b", 2, 5, 1), ("a", 1, 2, 0), ("abc", 3, 9, 4)]
        self.assertEqual(heights([0, 1, 3, 0, 0], table), [0, 2, 5, 9, 11, 14])
        self.assertEqual(heights([9, 0, 9, 0, 0], table), [0, 0, 2, 2, 4, 7])

    def test_without_cells_and_without_kinds(self):
        for table in TABLES + (FULL,):
            self.assertEqual(heights([], table), [0])
        for roll in ([], [0], [TOP, 0, 3], [0] * 200):
            self.assertEqual(heights(roll, []), [0] * (len(roll) + 1))

    def test_against_trying(self):
        for roll, table in small_cases():
            told = heights(roll, table)
            self.assertEqual(told, [greatest(roll[:end], table) for end in range(len(roll) + 1)])

    def test_one_cell_less(self):
        for roll, table in small_cases():
            if roll:
                self.assertEqual(heights(roll[:-1], table), heights(roll, table)[:-1])
        for roll in LONG_ROLLS:
            whole = heights(roll, FULL)
            for length in (0, 1, 2, 3, 40, 99, 100, 199):
                self.assertEqual(heights(roll[:length], FULL), whole[:length + 1])

    def test_begins_with_nought_and_never_falls(self):
        for roll, table in list(small_cases()) + [(roll, FULL) for roll in LONG_ROLLS]:
            told = heights(roll, table)
            self.assertIs(type(told), list)
            self.assertEqual(len(told), len(roll) + 1)
            self.assertEqual(told[0], 0)
            self.assertEqual(told, sorted(told))
            for number in told:
                self.assertIs(type(number), int)

    def test_two_hundred_cells(self):
        self.assertEqual(heights([0] * 200, [("a", 1, TOP, 0)]), [TOP * end for end in range(201)])
        self.assertEqual(heights([1] * 200, [("a", 200, 7, 200)]), [0] * 200 + [7])
        self.assertEqual(heights([1] * 200, [("a", 200, 7, 199)]), [0] * 201)
        self.assertEqual(heights([0] * 200, [("a", 3, 7, 0)]), [end // 3 * 7 for end in range(201)])

    def test_just_allowed(self):
        for weight in (0, 1, 5, TOP - 1):
            kind = ("a", 2, 3, weight)
            self.assertEqual(heights([weight, 0], [kind]), [0, 0, 3])
            self.assertEqual(heights([weight, 1], [kind]), [0, 0, 0])


class TestBest(unittest.TestCase):
    def told(self, roll, table, worth, cutting):
        self.assertEqual(best(roll, table), (worth, cutting))
        self.assertIs(type(best(roll, table)), tuple)

    def test_ordinary(self):
        table = [("b", 2, 5, 1), ("a", 1, 2, 0), ("abc", 3, 9, 4)]
        self.told([0, 1, 3, 0, 0], table, 14, [(0, "abc"), (3, "b")])
        self.told([9, 0, 9, 0, 0], table, 7, [(1, "a"), (3, "b")])
        self.told([9, 9], table, 0, [])

    def test_without_cells_and_without_kinds(self):
        for table in TABLES + (FULL,):
            self.told([], table, 0, [])
        for roll in ([], [0], [TOP, 0], [0] * 200):
            self.told(roll, [], 0, [])

    def test_left_over_cell_goes_last(self):
        self.told([0, 0, 0], [("a", 2, 5, 0)], 5, [(0, "a")])
        self.told([0] * 5, [("a", 2, 5, 0)], 10, [(0, "a"), (2, "a")])
        self.told([1, 0, 0, 0], [("a", 2, 5, 0)], 5, [(1, "a")])

    def test_first_kind_of_the_table(self):
        for first, second, third in itertools.permutations("abc"):
            table = [(first, 2, 5, 0), (second, 2, 5, 0), (third, 2, 5, 0)]
            self.told([0, 0, 0, 0], table, 10, [(0, first), (2, first)])

    def test_first_kind_that_fits(self):
        table = [("c", 2, 5, 0), ("b", 2, 5, 1), ("a", 2, 5, 2)]
        self.told([1, 0], table, 5, [(0, "b")])
        self.told([0, 2], table, 5, [(0, "a")])
        self.told([0, 2, 0, 1, 0, 0], table, 15, [(0, "a"), (2, "b"), (4, "c")])

    def test_same_kinds_in_another_order(self):
        one, two = ("one", 1, 2, 0), ("two", 2, 4, 0)
        self.told([0, 0, 0], [one, two], 6, [(0, "one"), (1, "one"), (2, "one")])
        self.told([0, 0, 0], [two, one], 6, [(0, "one"), (1, "two")])
        self.told([0] * 4, [two, one], 8, [(0, "two"), (2, "two")])
        long, short = ("long", 3, 3, 0), ("short", 2, 3, 0)
        self.told([0] * 5, [long, short], 6, [(0, "short"), (2, "short")])
        self.told([9, 0, 0, 0], [long, short], 3, [(1, "short")])

    def test_last_piece_first(self):
        table = [("a", 3, 5, 0), ("b", 2, 4, 0)]
        self.told([0] * 5, table, 9, [(0, "b"), (2, "a")])
        self.told([0] * 5, table[::-1], 9, [(0, "a"), (3, "b")])

    def test_word_by_word(self):
        for roll, table in small_cases():
            self.told(roll, table, greatest(roll, table), told_in_words(roll, table))

    def test_orders_of_kinds_word_by_word(self):
        kinds = [("a", 1, 2, 0), ("b", 2, 4, 1), ("c", 2, 4, 0), ("d", 3, 6, 3)]
        for table in itertools.permutations(kinds):
            for roll in small_rolls(5, (0, 1)):
                self.told(roll, list(table), greatest(roll, table), told_in_words(roll, list(table)))

    def test_worth_of_the_told_cutting(self):
        for roll in LONG_ROLLS:
            worth, cutting = best(roll, FULL)
            self.assertIs(type(cutting), list)
            self.assertEqual(amount(roll, FULL, cutting), worth)
            self.assertEqual(heights(roll, FULL)[-1], worth)

    def test_two_hundred_cells(self):
        self.told([0] * 200, [("a", 1, TOP, 0)], 200 * TOP, [(place, "a") for place in range(200)])
        self.told([0] * 200, [("a", 3, 7, 0)], 462, [(place, "a") for place in range(0, 198, 3)])
        self.told([1] * 200, [("a", 200, 7, 200)], 7, [(0, "a")])
        self.told([TOP] * 200, FULL, 0, [])
        halves = [("a", 1, 1, 0), ("b", 100, 100, 0)]
        self.told([0] * 200, halves, 200, [(place, "a") for place in range(200)])
        self.told([0] * 200, halves[::-1], 200, [(0, "b"), (100, "b")])

    def test_begins_as_it_is_told_of_fewer_cells(self):
        for length in range(1, 201):
            worth, cutting = best(LONG[:length], FULL)
            if best(LONG[:length - 1], FULL)[0] == worth:
                self.assertEqual(best(LONG[:length - 1], FULL)[1], cutting)
            else:
                self.assertEqual(best(LONG[:cutting[-1][0]], FULL)[1], cutting[:-1])

    def test_turned_about(self):
        for roll, table in list(small_cases()) + [(roll, FULL) for roll in LONG_ROLLS]:
            self.assertEqual(best(turned(roll), table)[0], best(roll, table)[0])


class TestWhoseLists(unittest.TestCase):
    def test_heights_and_best(self):
        for ask in (heights, best):
            check_lists(self, ask, LONG, FULL)
            for table in TABLES:
                for roll in ([], [0], [0, 1, 3, 0, 0]):
                    check_lists(self, ask, roll, table)


if __name__ == "__main__":
    unittest.main()
