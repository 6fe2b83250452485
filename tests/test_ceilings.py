"""Promise 28, what promise 5 says of ceilings, and promises 2, 3 and 4 for the functions of ceilings."""

import itertools
import unittest

from selvage.ceilings import ceiling, shows_ceiling
from selvage.filling import richest
from selvage.prices import prices, shows
from trying import FULL, LONG, TABLES, TOP, WIDE, check_lists, greatest, order_cases

TABLE = [("b", 2, 5, 1), ("a", 1, 2, 0), ("abc", 3, 9, 4)]
TWELVE = [LONG[at:] + LONG[:at] for at in range(0, 120, 10)]


def rebated_in_words(table, rebates):
    kinds = []
    for (name, width, worth, allowed), rebate in zip(table, rebates):
        if worth - rebate >= 1:
            kinds.append((name, width, worth - rebate, allowed))
    return kinds


def rebates_in_words(table, order):
    """The rebates that promise 28 names, one by one."""
    wanted = [place for place in range(len(table)) if order[place] > 0]
    choices = [[]] + [[place] for place in wanted] + [wanted]
    named = []
    for given in choices:
        named.append([
            kind[2] if place not in wanted or place in given else 0 for place, kind in enumerate(table)
        ])
    return named


def bound_in_words(rolls, table, order, rebates):
    kinds = rebated_in_words(table, rebates)
    return sum(greatest(roll, kinds) for roll in rolls) + sum(some * one for some, one in zip(order, rebates))


def shows_ceiling_in_words(rolls, table, order, number, paper):
    rebates, lists = paper
    if len(rebates) != len(table) or any(rebate < 0 for rebate in rebates):
        return False
    kinds = rebated_in_words(table, rebates)
    if len(lists) != len(rolls):
        return False
    for roll, some in zip(rolls, lists):
        if not shows(roll, kinds, sum(some), some):
            return False
    return sum(map(sum, lists)) + sum(some * one for some, one in zip(order, rebates)) <= number


class TestCeiling(unittest.TestCase):
    def told(self, rolls, table, order, worth):
        told = ceiling(rolls, table, order)
        self.assertEqual(told[0], worth, (rolls, table, order))
        self.assertEqual((type(told), type(told[1]), len(told[1])), (tuple, tuple, 2))
        self.assertEqual([type(part) for part in told[1]], [list, list])
        for some in told[1][1]:
            self.assertIs(type(some), list)
        self.assertIs(shows_ceiling(rolls, table, order, worth, told[1]), True)
        self.assertIs(shows_ceiling_in_words(rolls, table, order, worth, told[1]), True)
        self.assertIs(shows_ceiling(rolls, table, order, worth - 1, told[1]), False)

    def alone(self, rolls, table, order, numbers):
        """One of the named rebates alone has the least number."""
        named = rebates_in_words(table, order)
        self.assertEqual([bound_in_words(rolls, table, order, rebates) for rebates in named], numbers)
        self.assertEqual(numbers.count(min(numbers)), 1)
        self.told(rolls, table, order, min(numbers))
        self.assertEqual(ceiling(rolls, table, order)[1][0], named[numbers.index(min(numbers))])

    def test_no_rebate_for_the_wanted(self):
        self.alone([[0] * 3, [0] * 2], [("a", 1, 2, 0), ("b", 1, 1, 0)], [9, 9], [10, 23, 19, 27])

    def test_one_wanted_kind_has_its_worth(self):
        self.alone([[0] * 5], [("a", 1, 9, 0), ("b", 1, 1, 0)], [2, 9], [45, 23, 54, 27])
        self.alone([[0] * 5], [("b", 1, 1, 0), ("a", 1, 9, 0)], [9, 2], [45, 54, 23, 27])

    def test_all_have_their_worths(self):
        self.alone([[0] * 9], [("a", 1, 9, 0), ("b", 1, 8, 0)], [1, 1], [81, 81, 89, 17])

    def test_a_kind_that_is_not_wanted(self):
        self.told([[0] * 4], [("a", 1, 9, 0), ("b", 2, 1, 0)], [0, 9], 2)
        self.told([[0] * 4], [("b", 2, 1, 0), ("a", 1, 9, 0)], [9, 0], 2)
        self.told([[0] * 4], [("a", 1, 9, 0), ("b", 2, 1, 0)], [0, 1], 1)
        told = ceiling([[0] * 4], [("a", 1, 9, 0), ("b", 2, 1, 0)], [0, 9])
        self.assertEqual(told[1][0], [9, 0])

    def test_nothing_wanted(self):
        for rolls in ([], [[]], [[0, 0], [9]], TWELVE):
            for table in TABLES + (FULL,):
                self.told(rolls, table, [0] * len(table), 0)

    def test_no_rolls_and_rolls_without_cells(self):
        for rolls in ([], [[]], [[], []], [[TOP]]):
            self.told(rolls, TABLE, [1, 2, 3], 0)
            self.told(rolls, TABLE, [WIDE, WIDE, WIDE], 0)

    def test_great_numbers(self):
        self.told([[0] * 200] * 12, [("a", 1, TOP, 0)], [WIDE], 2400 * TOP)
        self.told([[0] * 200] * 12, [("a", 1, TOP, 0)], [2401], 2400 * TOP)
        self.told([[0] * 200] * 12, [("a", 1, TOP, 0)], [2399], 2399 * TOP)

    def test_against_the_named_rebates(self):
        for rolls, table, order in order_cases():
            named = rebates_in_words(table, order)
            self.told(rolls, table, order, min(bound_in_words(rolls, table, order, rebates) for rebates in named))

    def test_long_rolls(self):
        for order in ([5] * 8, [0, 9, 0, 9, 0, 9, 0, 9], [WIDE] * 8, [0, 0, 0, 0, 0, 0, 0, 11], [90, 1, 1, 1, 1, 1, 1, 1]):
            numbers = []
            for rebates in rebates_in_words(FULL, order):
                kinds = rebated_in_words(FULL, rebates)
                cells = sum(sum(prices(roll, kinds)) for roll in TWELVE)
                numbers.append(cells + sum(some * one for some, one in zip(order, rebates)))
            self.told(TWELVE, FULL, order, min(numbers))


class TestShowsCeiling(unittest.TestCase):
    def yes(self, rolls, table, order, number, paper):
        self.assertIs(shows_ceiling(rolls, table, order, number, paper), True, (rolls, table, order, number, paper))

    def no(self, rolls, table, order, number, paper):
        self.assertIs(shows_ceiling(rolls, table, order, number, paper), False, (rolls, table, order, number, paper))

    def test_ordinary(self):
        rolls = [[0, 0, 0], [0, 9, 0]]
        self.yes(rolls, TABLE, [9, 9, 9], 13, ([0, 0, 0], [[3, 3, 3], [2, 0, 2]]))
        self.no(rolls, TABLE, [9, 9, 9], 12, ([0, 0, 0], [[3, 3, 3], [2, 0, 2]]))
        self.yes(rolls, TABLE, [9, 1, 9], 11, ([0, 2, 0], [[3, 3, 3], [0, 0, 0]]))
        self.no(rolls, TABLE, [9, 1, 9], 10, ([0, 2, 0], [[3, 3, 3], [0, 0, 0]]))
        self.yes(rolls, TABLE, [1, 1, 1], 16, ([5, 2, 9], [[0, 0, 0], [0, 0, 0]]))

    def test_the_number_one_less_and_more(self):
        for rolls, table, order in order_cases(24):
            worth, paper = ceiling(rolls, table, order)
            self.yes(rolls, table, order, worth, paper)
            self.yes(rolls, table, order, worth + 1, paper)
            self.yes(rolls, table, order, WIDE, paper)
            self.no(rolls, table, order, worth - 1, paper)
            self.no(rolls, table, order, -1, paper)
            self.no(rolls, table, order, -WIDE, paper)

    def test_rebates_below_nought(self):
        rolls = [[0, 0]]
        self.yes(rolls, TABLE, [1, 1, 1], 99, ([0, 0, 0], [[9, 9]]))
        for rebate in (-1, -TOP, -WIDE):
            for place in range(3):
                rebates = [0, 0, 0]
                rebates[place] = rebate
                self.no(rolls, TABLE, [1, 1, 1], WIDE, (rebates, [[WIDE, WIDE]]))
                self.no(rolls, TABLE, [0, 0, 0], 99, (rebates, [[9, 9]]))
        self.no([], TABLE, [1, 1, 1], 0, ([-1, 0, 0], []))

    def test_rebates_too_few_and_too_many(self):
        for rebates in ([], [0], [0, 0], [0, 0, 0, 0], [5, 2], [5, 2, 9, 1], [0] * 203):
            self.no([[0, 0]], TABLE, [1, 1, 1], WIDE, (rebates, [[9, 9]]))
            self.no([], TABLE, [1, 1, 1], WIDE, (rebates, []))
        self.no([], [], [], 0, ([0], []))
        self.yes([], [], [], 0, ([], []))

    def test_rebates_at_the_worth_and_beyond(self):
        table = [("a", 1, 5, 0)]
        self.yes([[0]], table, [1], 5, ([4], [[1]]))
        self.no([[0]], table, [1], 9, ([4], [[0]]))
        self.yes([[0]], table, [1], 5, ([5], [[0]]))
        self.no([[0]], table, [1], 4, ([5], [[0]]))
        self.yes([[0]], table, [1], 6, ([6], [[0]]))
        self.no([[0]], table, [1], 5, ([6], [[0]]))
        self.yes([[0]], table, [1], WIDE, ([WIDE], [[0]]))
        self.no([[0]], table, [1], WIDE - 1, ([WIDE], [[0]]))
        self.yes([[0]], table, [0], 0, ([WIDE], [[0]]))
        self.yes([[0]], table, [0], 0, ([5], [[0]]))
        self.no([[0]], table, [0], 9, ([4], [[0]]))
        self.no([[0]], table, [WIDE], WIDE, ([WIDE], [[0]]))
        self.yes([[0]], table, [WIDE], 2 * WIDE + 3, ([2], [[3]]))
        self.no([[0]], table, [WIDE], 2 * WIDE + 2, ([2], [[3]]))

    def test_prices_one_less(self):
        for rolls, table, order in order_cases(12):
            worth, (rebates, lists) = ceiling(rolls, table, order)
            for roll in range(len(rolls)):
                for cell in range(len(rolls[roll])):
                    for change in (-1, 1):
                        other = [list(some) for some in lists]
                        other[roll][cell] += change
                        right = shows_ceiling_in_words(rolls, table, order, worth, (rebates, other))
                        self.assertIs(shows_ceiling(rolls, table, order, worth, (rebates, other)), right)
        self.no([[0], [0]], TABLE, [0, 2, 0], 9, ([5, 0, 9], [[2], [1]]))
        self.no([[0], [0]], TABLE, [0, 2, 0], 9, ([5, 0, 9], [[1], [2]]))
        self.yes([[0], [0]], TABLE, [0, 2, 0], 9, ([5, 0, 9], [[2], [2]]))

    def test_prices_below_nought(self):
        self.no([[9, 9]], TABLE, [1, 1, 1], 9, ([0, 0, 0], [[-1, 1]]))
        self.no([[9], [9]], TABLE, [1, 1, 1], 9, ([0, 0, 0], [[0], [-1]]))
        self.no([[9], [9]], TABLE, [1, 1, 1], 9, ([0, 0, 0], [[-WIDE], [WIDE]]))
        self.yes([[9], [9]], TABLE, [1, 1, 1], 0, ([0, 0, 0], [[0], [0]]))

    def test_prices_of_another_length(self):
        rolls, order = [[0, 0], [9]], [0, 2, 0]
        self.yes(rolls, TABLE, order, 4, ([5, 0, 9], [[2, 2], [0]]))
        for lists in ([[2], [0]], [[2, 2, 0], [0]], [[2, 2], []], [[2, 2], [0, 0]], [[], []], [[2, 2], [0] * 203]):
            self.no(rolls, TABLE, order, 9, ([5, 0, 9], lists))

    def test_lists_too_few_and_too_many(self):
        rolls, order = [[0, 0], [9]], [0, 2, 0]
        for lists in ([], [[2, 2]], [[2, 2], [0], [0]], [[2, 2], [0], []], [[]] * 203):
            self.no(rolls, TABLE, order, 9, ([5, 0, 9], lists))
        self.no([], TABLE, order, 9, ([5, 0, 9], [[]]))
        self.yes([], TABLE, order, 0, ([5, 0, 9], []))
        self.no([[]], TABLE, order, 9, ([5, 0, 9], []))
        self.yes([[]], TABLE, order, 0, ([5, 0, 9], [[]]))

    def test_word_by_word(self):
        table = [("b", 2, 3, 1), ("a", 1, 1, 0)]
        rolls = [[0, 0], [1]]
        for rebates in itertools.product((-1, 0, 1, 3, 4), repeat=2):
            for first in itertools.product((-1, 0, 1, 2), repeat=2):
                for second in (-1, 0, 1):
                    paper = (list(rebates), [list(first), [second]])
                    for number in range(-1, 10):
                        right = shows_ceiling_in_words(rolls, table, [1, 2], number, paper)
                        self.assertIs(shows_ceiling(rolls, table, [1, 2], number, paper), right)

    def test_twelve_long_rolls(self):
        worth, (rebates, lists) = ceiling(TWELVE, FULL, [300] * 8)
        self.assertEqual(rebates, [0] * 8)
        self.yes(TWELVE, FULL, [300] * 8, worth, (rebates, lists))
        dear = [cell for cell in range(200) if lists[11][cell] > 0][-1]
        lists[11][dear] -= 1
        self.no(TWELVE, FULL, [300] * 8, worth, (rebates, lists))


class TestThePromise(unittest.TestCase):
    def test_never_below_the_richest(self):
        for rolls, table, order in order_cases():
            self.assertGreaterEqual(ceiling(rolls, table, order)[0], richest(rolls, table, order)[0])

    def test_no_paper_shows_less(self):
        rolls, table, order = [[0, 0], [0, 1], [1]], [("b", 2, 3, 1), ("a", 1, 1, 0)], [1, 2]
        worth = richest(rolls, table, order)[0]
        for rebates in itertools.product((0, 1, 2, 3, 4), repeat=2):
            for cells in itertools.product((0, 1, 2), repeat=5):
                lists = [list(cells[:2]), list(cells[2:4]), list(cells[4:])]
                self.assertIs(shows_ceiling(rolls, table, order, worth - 1, (list(rebates), lists)), False)


class TestWhoseLists(unittest.TestCase):
    def test_all(self):
        for rolls, table, order in order_cases(6):
            check_lists(self, ceiling, rolls, table, order)
            worth, paper = ceiling(rolls, table, order)
            check_lists(self, shows_ceiling, rolls, table, order, worth, paper)
            check_lists(self, shows_ceiling, rolls, table, order, worth - 1, paper)
            check_lists(self, shows_ceiling, rolls, table, order, worth, (paper[0] + [1], paper[1]))

    def test_one_roll_handed_in_twice(self):
        roll = [0, 0]
        lists = ceiling([roll, roll], TABLE, [1, 1, 0])[1][1]
        self.assertIsNot(lists[0], lists[1])
        self.assertEqual(roll, [0, 0])


if __name__ == "__main__":
    unittest.main()
