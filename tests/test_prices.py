"""Promise 13, what promise 5 says of prices, and promises 2, 3 and 4 for the functions of prices."""

import itertools
import unittest

from selvage.best import best
from selvage.prices import prices, shows
from selvage.rolls import turned
from trying import FULL, LONG, TABLES, TOP, WIDE, check_lists, greatest, small_cases, small_rolls

TABLE = [("b", 2, 5, 1), ("a", 1, 2, 0), ("abc", 3, 9, 4)]


def shows_in_words(roll, table, number, told):
    if len(told) != len(roll) or min(told, default=0) < 0:
        return False
    for name, width, worth, allowed in table:
        for place in range(len(roll) - width + 1):
            if sum(roll[place:place + width]) <= allowed and sum(told[place:place + width]) < worth:
                return False
    return sum(told) <= number


class TestShows(unittest.TestCase):
    def yes(self, roll, table, number, told):
        self.assertIs(shows(roll, table, number, told), True, (roll, table, number, told))

    def no(self, roll, table, number, told):
        self.assertIs(shows(roll, table, number, told), False, (roll, table, number, told))

    def test_ordinary(self):
        self.yes([0, 0, 0], TABLE, 9, [3, 3, 3])
        self.yes([0, 0, 0], TABLE, 9, [2, 3, 4])
        self.no([0, 0, 0], TABLE, 9, [1, 5, 3])
        self.no([0, 0, 0], TABLE, 9, [0, 9, 0])

    def test_sum_at_the_number_and_one_above(self):
        self.yes([0, 0, 0], TABLE, 10, [3, 3, 3])
        self.yes([0, 0, 0], TABLE, WIDE, [3, 3, 3])
        self.yes([0, 0, 0], TABLE, 9, [3, 3, 3])
        self.no([0, 0, 0], TABLE, 8, [3, 3, 3])
        self.no([0, 0, 0], TABLE, 9, [3, 3, 4])
        self.no([0, 0, 0], TABLE, 9, [4, 3, 3])

    def test_one_less_than_the_worth(self):
        for place in range(3):
            told = [3, 3, 3]
            told[place] -= 1
            self.no([0, 0, 0], [("abc", 3, 9, 0)], 99, told)
        self.no([9, 0, 0, 9], [("b", 2, 5, 0)], 99, [9, 2, 2, 9])
        self.yes([9, 0, 0, 9], [("b", 2, 5, 0)], 99, [9, 2, 3, 9])
        self.no([9, 0], [("a", 1, TOP, 0)], WIDE, [TOP, TOP - 1])
        self.yes([9, 0], [("a", 1, TOP, 0)], WIDE, [0, TOP])

    def test_each_piece_counts(self):
        table = [("a", 2, 4, 0), ("b", 3, 4, 9)]
        for place in range(7):
            told = [2] * 8
            told[place], told[place + 1] = 1, 2
            self.no([0] * 8, table, 99, told)
        self.no([0, 9, 0, 0], table, 99, [1, 2, 0, 4])
        self.yes([0, 9, 0, 0], table, 99, [2, 2, 0, 4])

    def test_pieces_that_do_not_fit_do_not_count(self):
        self.yes([1], [("a", 1, 5, 0)], 0, [0])
        self.no([1], [("a", 1, 5, 1)], 0, [0])
        self.yes([0, 0], [("a", 3, 5, 0)], 0, [0, 0])

    def test_below_nought(self):
        self.no([0, 0, 0], [("abc", 3, 9, 0)], 9, [-1, 10, 0])
        self.no([0, 0, 0], [("abc", 3, 9, 0)], 9, [10, -1, 0])
        self.no([0, 0, 0], [("abc", 3, 9, 0)], 9, [5, 5, -1])
        self.no([0], [], 9, [-1])
        self.no([9, 9], TABLE, 9, [-WIDE, WIDE])
        self.yes([9, 9], TABLE, 0, [0, 0])

    def test_as_many_as_cells(self):
        self.yes([0, 0], [("a", 1, 2, 0)], 9, [2, 2])
        self.no([0, 0], [("a", 1, 2, 0)], 9, [2])
        self.no([0, 0], [("a", 1, 2, 0)], 9, [2, 2, 0])
        self.no([0, 0], [("a", 1, 2, 0)], 9, [])
        self.no([9, 9], [("a", 1, 2, 0)], 9, [0])
        self.no([9, 9], [("a", 1, 2, 0)], 9, [0, 0, 0])
        self.no([0] * 200, FULL, WIDE, [TOP] * 199)
        self.yes([0] * 200, FULL, WIDE, [TOP] * 200)
        self.no([0] * 200, FULL, WIDE, [TOP] * 201)
        self.no([0] * 200, FULL, WIDE, [TOP] * 203)

    def test_numbers_below_nought(self):
        for number in (-1, -9, -WIDE):
            self.no([], [], number, [])
            self.no([], TABLE, number, [])
            self.no([9], TABLE, number, [0])
            self.no([9], TABLE, number, [number])

    def test_sixty_figures(self):
        self.yes([0], TABLE, WIDE, [WIDE])
        self.no([0], TABLE, WIDE - 1, [WIDE])
        self.no([0, 0], TABLE, WIDE, [WIDE, WIDE])
        self.no([0, 0], TABLE, WIDE, [WIDE, -WIDE])
        self.no([0, 0], TABLE, WIDE, [-WIDE, WIDE])
        self.no([0], TABLE, -WIDE, [WIDE])

    def test_empty_list(self):
        for table in TABLES:
            self.yes([], table, 0, [])
            self.yes([], table, WIDE, [])
            self.no([], table, -1, [])
            self.no([], table, 5, [0])
            self.no([0], table, 5, [])

    def test_table_without_kinds(self):
        self.yes([0, 0], [], 0, [0, 0])
        self.yes([0, 0], [], 3, [1, 2])
        self.no([0, 0], [], 2, [1, 2])

    def test_word_by_word(self):
        for table in TABLES:
            for roll in small_rolls(3, (0, 1)):
                for length in range(len(roll) + 2):
                    for told in itertools.product((-1, 0, 2, 3, 5), repeat=length):
                        for number in (0, 5, 6, 9):
                            right = shows_in_words(roll, table, number, told)
                            self.assertIs(shows(roll, table, number, list(told)), right)


class TestPrices(unittest.TestCase):
    def right(self, roll, table, worth):
        told = prices(roll, table)
        self.assertIs(type(told), list)
        for price in told:
            self.assertIs(type(price), int)
        self.assertIs(shows(roll, table, worth, told), True, (roll, table, told))
        self.assertTrue(shows_in_words(roll, table, worth, told), (roll, table, told))
        self.assertEqual(sum(told), worth)
        self.assertIs(shows(roll, table, worth - 1, told), False)

    def test_against_trying(self):
        for roll, table in small_cases():
            self.right(roll, table, greatest(roll, table))

    def test_without_cells_and_without_kinds(self):
        for table in TABLES + (FULL,):
            self.assertEqual(prices([], table), [])
            self.right([], table, 0)
        for roll in ([0], [TOP, 0, 3], [0] * 200):
            self.assertEqual(prices(roll, []), [0] * len(roll))
            self.right(roll, [], 0)

    def test_two_hundred_cells(self):
        for roll in ([0] * 200, [1] * 200, [TOP] * 200, LONG, turned(LONG)):
            self.right(roll, FULL, best(roll, FULL)[0])
        self.right([0] * 200, [("a", 1, TOP, 0)], 200 * TOP)
        self.right([0] * 200, [("a", 3, 7, 0)], 66 * 7)
        self.right([1] * 200, [("a", 200, 7, 200)], 7)

    def test_show_the_turned_roll(self):
        for roll, table in small_cases(3):
            self.assertIs(shows(turned(roll), table, best(roll, table)[0], turned(prices(roll, table))), True)


class TestWhoseLists(unittest.TestCase):
    def test_prices_and_shows(self):
        for roll in ([], [0], [0, 1, 3, 0, 0], LONG):
            for table in (TABLE, [], FULL):
                check_lists(self, prices, roll, table)
                for told in ([], prices(roll, table), [-1] * len(roll)):
                    check_lists(self, shows, roll, table, best(roll, table)[0], told)


if __name__ == "__main__":
    unittest.main()
