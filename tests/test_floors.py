"""Promises 26 and 27, what promise 5 says of floors, and promises 2, 3 and 4 for the functions of floors."""

import itertools
import unittest

from selvage.best import best
from selvage.errors import Short
from selvage.filling import fill
from selvage.floors import floor, floor_by, pointed, shows_floor
from selvage.prices import prices, shows
from selvage.tables import fault
from trying import FULL, LONG, TABLES, TOP, WIDE, check_lists, greatest, mixed, order_cases, plans_tried

TABLE = [("b", 2, 5, 1), ("a", 1, 2, 0), ("abc", 3, 9, 4)]
TWELVE = [LONG[at:] + LONG[:at] for at in range(0, 120, 10)]


def points_in_words(table, order):
    """The points that promise 27 names, one by one."""
    wanted = [number > 0 for number in order]
    named = []
    for place in range(len(table)):
        if wanted[place]:
            points = [0] * len(table)
            points[place] = 1
            named.append(points)
    for each in ([kind[1] for kind in table], [kind[2] for kind in table], [1] * len(table)):
        named.append([one if is_wanted else 0 for one, is_wanted in zip(each, wanted)])
    return named


def least_in_words(sums, needed):
    for number in range(len(sums) + 1):
        greatest_together = max(sum(some) for some in itertools.combinations(sums, number))
        if greatest_together >= needed:
            return number
    return len(sums) + 1


def floor_by_in_words(rolls, table, order, points):
    kinds = [(kind[0], kind[1], point, kind[3]) for kind, point in zip(table, points) if point != 0]
    sums = [greatest(roll, kinds) for roll in rolls]
    return least_in_words(sums, sum(number * point for number, point in zip(order, points)))


def shows_floor_in_words(rolls, table, order, number, paper):
    points, lists = paper
    if len(points) != len(table) or any(point < 0 or point > TOP for point in points):
        return False
    kinds = [(kind[0], kind[1], point, kind[3]) for kind, point in zip(table, points) if point != 0]
    if len(lists) != len(rolls):
        return False
    for roll, some in zip(rolls, lists):
        if not shows(roll, kinds, sum(some), some):
            return False
    needed = sum(wanted * point for wanted, point in zip(order, points))
    return least_in_words([sum(some) for some in lists], needed) >= number


class TestPointed(unittest.TestCase):
    def test_ordinary(self):
        self.assertEqual(pointed(TABLE, [7, 8, 9]), [("b", 2, 7, 1), ("a", 1, 8, 0), ("abc", 3, 9, 4)])
        self.assertEqual(pointed(TABLE, [1, 1, 1]), [("b", 2, 1, 1), ("a", 1, 1, 0), ("abc", 3, 1, 4)])

    def test_points_of_nought(self):
        self.assertEqual(pointed(TABLE, [0, 8, 9]), [("a", 1, 8, 0), ("abc", 3, 9, 4)])
        self.assertEqual(pointed(TABLE, [7, 0, 9]), [("b", 2, 7, 1), ("abc", 3, 9, 4)])
        self.assertEqual(pointed(TABLE, [7, 8, 0]), [("b", 2, 7, 1), ("a", 1, 8, 0)])
        self.assertEqual(pointed(TABLE, [0, 0, 1]), [("abc", 3, 1, 4)])
        self.assertEqual(pointed(TABLE, [0, 0, 0]), [])

    def test_without_kinds(self):
        self.assertEqual(pointed([], []), [])

    def test_great_points(self):
        self.assertEqual(pointed(TABLE, [TOP, 0, TOP]), [("b", 2, TOP, 1), ("abc", 3, TOP, 4)])

    def test_is_a_table(self):
        for table in TABLES + (FULL,):
            for seed in range(6):
                told = pointed(table, mixed(seed, len(table), (0, 1, 5, TOP)))
                self.assertIs(type(told), list)
                self.assertIsNone(fault(told))
            self.assertEqual(pointed(table, [kind[2] for kind in table]), table)


class TestFloorBy(unittest.TestCase):
    def told(self, rolls, table, order, points, number):
        self.assertEqual(floor_by(rolls, table, order, points), number, (rolls, table, order, points))

    def test_ordinary(self):
        rolls = [[0] * 3, [0] * 5, [0, 9, 0]]
        self.told(rolls, TABLE, [0, 5, 0], [0, 1, 0], 1)
        self.told(rolls, TABLE, [0, 6, 0], [0, 1, 0], 2)
        self.told(rolls, TABLE, [0, 9, 0], [0, 1, 0], 3)
        self.told(rolls, TABLE, [2, 3, 0], [2, 1, 0], 2)

    def test_nought(self):
        rolls = [[0] * 3, [], [9]]
        for points in ([0, 0, 0], [1, 2, 3], [TOP, TOP, TOP]):
            self.told(rolls, TABLE, [0, 0, 0], points, 0)
            self.told([], TABLE, [0, 0, 0], points, 0)
        for order in ([1, 2, 3], [WIDE, WIDE, WIDE]):
            self.told(rolls, TABLE, order, [0, 0, 0], 0)
            self.told([], TABLE, order, [0, 0, 0], 0)
        self.told(rolls, TABLE, [0, 5, 0], [1, 0, 1], 0)
        self.told(rolls, [], [], [], 0)
        self.told([], [], [], [], 0)

    def test_at_the_sum_and_one_below(self):
        rolls = [[0] * 2, [0] * 4, [0] * 3]
        table = [("a", 1, 7, 0)]
        for wanted, number in ((1, 1), (3, 1), (4, 1), (5, 2), (7, 2), (8, 3), (9, 3), (10, 4), (11, 4), (WIDE, 4)):
            self.told(rolls, table, [wanted], [1], number)
            self.told(rolls, table, [wanted], [6], number)
            self.told(rolls, table, [wanted], [TOP], number)
        self.told([[0] * 200] * 3, [("a", 1, 7, 0)], [400 * TOP], [1], 4)

    def test_all_do_not_make_it(self):
        self.told([], TABLE, [1, 0, 0], [1, 0, 0], 1)
        self.told([[]], TABLE, [1, 0, 0], [1, 0, 0], 2)
        self.told([[9, 9]], TABLE, [1, 0, 0], [1, 0, 0], 2)
        self.told([[0] * 200] * 12, TABLE, [0, 2400, 0], [0, 1, 0], 12)
        self.told([[0] * 200] * 12, TABLE, [0, 2401, 0], [0, 1, 0], 13)
        self.told([[0] * 200] * 12, TABLE, [WIDE, WIDE, WIDE], [TOP, TOP, TOP], 13)

    def test_the_worths_are_those_of_the_points(self):
        table = [("a", 1, TOP, 0), ("b", 2, 1, 0)]
        self.told([[0, 0], [0, 0]], table, [0, 2], [0, 1], 2)
        self.told([[0, 0], [0, 0]], table, [1, 1], [1, 3], 2)
        self.told([[0, 0], [0, 0]], table, [1, 1], [1, 2], 2)
        self.told([[0, 0], [0, 0]], table, [2, 0], [1, 2], 1)

    def test_long_rolls(self):
        rolls = [[0] * 200, [0] * 41, [0] * 100]
        self.told(rolls, [("a", 41, 1, 0)], [4], [1], 1)
        self.told(rolls, [("a", 41, 1, 0)], [5], [1], 2)
        self.told(rolls, [("a", 41, 1, 0)], [7], [1], 3)
        self.told(rolls, [("a", 41, 1, 0)], [8], [1], 4)

    def test_against_trying(self):
        for rolls, table, order in order_cases(24):
            for seed in range(3):
                points = mixed(seed, len(table), (0, 1, 2, 7, TOP))
                self.told(rolls, table, order, points, floor_by_in_words(rolls, table, order, points))

    def test_no_plan_that_fills_uses_fewer(self):
        for rolls, table, order in order_cases(24):
            filled = [number for number, left in plans_tried(rolls, table, order) if sum(left) == 0]
            for points in points_in_words(table, order) + [mixed(3, len(table), (0, 1, 5, TOP))]:
                told = floor_by(rolls, table, order, points)
                self.assertLessEqual(told, min(filled, default=len(rolls) + 1))


class TestFloor(unittest.TestCase):
    def told(self, rolls, table, order, number):
        told = floor(rolls, table, order)
        self.assertEqual(told[0], number, (rolls, table, order))
        self.assertEqual((type(told), type(told[1]), len(told[1])), (tuple, tuple, 2))
        self.assertIs(shows_floor(rolls, table, order, number, told[1]), True)
        self.assertIs(shows_floor_in_words(rolls, table, order, number, told[1]), True)
        self.assertEqual([type(part) for part in told[1]], [list, list])
        for some in told[1][1]:
            self.assertIs(type(some), list)

    def test_ordinary(self):
        rolls = [[0, 0, 0]] * 4
        table = [("a", 2, 1, 0), ("b", 1, 1, 0)]
        self.told(rolls, table, [3, 0], 3)
        self.told(rolls, table, [3, 1], 3)
        self.told(rolls, table, [0, 4], 2)
        self.told(rolls, table, [5, 0], 5)
        self.told(rolls, [("b", 1, 1, 0), ("a", 2, 1, 0)], [1, 3], 3)

    def alone(self, rolls, table, order, numbers):
        """One of the named points alone has the greatest number."""
        named = points_in_words(table, order)
        self.assertEqual([floor_by(rolls, table, order, points) for points in named], numbers)
        self.assertEqual(numbers.count(max(numbers)), 1)
        self.told(rolls, table, order, max(numbers))
        self.assertEqual(floor(rolls, table, order)[1][0], named[numbers.index(max(numbers))])

    def test_one_kind_alone(self):
        rolls = [[1, 0, 0, 0, 9, 0]] * 3
        self.alone(rolls, [("a", 2, 1, 0), ("b", 1, 1, 0)], [3, 1], [3, 1, 2, 1, 1])
        self.alone(rolls, [("a", 1, 1, 0), ("b", 2, 1, 0)], [1, 3], [1, 3, 2, 1, 1])

    def test_widths_alone(self):
        self.alone([[0] * 3] * 2, [("a", 1, 1, 0), ("b", 2, 1, 0)], [2, 1], [1, 1, 2, 1, 1])

    def test_worths_alone(self):
        self.alone([[0] * 4] * 3, [("a", 2, 1, 0), ("b", 3, 2, 0)], [1, 2], [1, 2, 2, 3, 2])

    def test_ones_alone(self):
        self.alone([[0] * 3] * 4, [("a", 2, 1, 0), ("b", 3, 2, 0)], [3, 1], [3, 1, 3, 3, 4])

    def test_a_kind_that_is_not_wanted_has_no_points(self):
        other = ("c", 1, TOP, 9)
        self.alone([[9] + [0] * 3] * 2, [("a", 1, 1, 0), ("b", 2, 1, 0), other], [2, 1, 0], [1, 1, 2, 1, 1])
        self.alone([[0] * 4] * 3, [("a", 2, 1, 0), other, ("b", 3, 2, 0)], [1, 0, 2], [1, 2, 2, 3, 2])
        self.alone([[0] * 3] * 4, [other, ("a", 2, 1, 0), ("b", 3, 2, 0)], [0, 3, 1], [3, 1, 3, 3, 4])

    def test_nothing_wanted(self):
        for rolls in ([], [[]], [[0, 0], [9]], TWELVE):
            for table in TABLES + (FULL,):
                self.told(rolls, table, [0] * len(table), 0)

    def test_no_rolls(self):
        self.told([], TABLE, [1, 0, 0], 1)
        self.told([[]], TABLE, [1, 0, 0], 2)
        self.told([[], []], TABLE, [WIDE, WIDE, WIDE], 3)

    def test_kinds_that_are_not_wanted_do_not_count(self):
        table = [("a", 1, TOP, 0), ("b", 2, 1, 0)]
        self.told([[0, 0], [0, 0], [0, 0]], table, [0, 3], 3)
        self.told([[0] * 4, [0, 0], [0, 0]], table, [0, 3], 2)

    def test_against_the_named_points(self):
        for rolls, table, order in order_cases():
            named = points_in_words(table, order)
            self.told(rolls, table, order, max(floor_by_in_words(rolls, table, order, points) for points in named))

    def test_long_rolls_and_great_numbers(self):
        for order in ([5] * 8, [0, 9, 0, 9, 0, 9, 0, 9], [WIDE] * 8, [0, 0, 0, 0, 0, 0, 0, 11], [300, 0, 0, 0, 0, 0, 0, 0]):
            named = [floor_by(TWELVE, FULL, order, points) for points in points_in_words(FULL, order)]
            self.told(TWELVE, FULL, order, max(named))


class TestShowsFloor(unittest.TestCase):
    def yes(self, rolls, table, order, number, paper):
        self.assertIs(shows_floor(rolls, table, order, number, paper), True, (rolls, table, order, number, paper))

    def no(self, rolls, table, order, number, paper):
        self.assertIs(shows_floor(rolls, table, order, number, paper), False, (rolls, table, order, number, paper))

    def test_ordinary(self):
        rolls = [[0, 0, 0], [0, 9, 0]]
        self.yes(rolls, TABLE, [0, 4, 0], 2, ([0, 1, 0], [[1, 1, 1], [1, 0, 1]]))
        self.yes(rolls, TABLE, [0, 3, 0], 1, ([0, 1, 0], [[1, 1, 1], [1, 0, 1]]))
        self.no(rolls, TABLE, [0, 3, 0], 2, ([0, 1, 0], [[1, 1, 1], [1, 0, 1]]))
        self.yes(rolls, TABLE, [0, 6, 0], 3, ([0, 1, 0], [[1, 1, 1], [1, 0, 1]]))
        self.no(rolls, TABLE, [0, 6, 0], 3, ([0, 1, 0], [[1, 1, 1], [1, 1, 1]]))
        self.yes(rolls, TABLE, [0, 6, 0], 2, ([0, 1, 0], [[1, 1, 1], [1, 1, 1]]))

    def test_prices_one_less(self):
        for rolls, table, order in order_cases(12):
            number, (points, lists) = floor(rolls, table, order)
            for roll in range(len(rolls)):
                for cell in range(len(rolls[roll])):
                    spoilt = [list(some) for some in lists]
                    spoilt[roll][cell] -= 1
                    right = shows_floor_in_words(rolls, table, order, number, (points, spoilt))
                    self.assertIs(shows_floor(rolls, table, order, number, (points, spoilt)), right)
        self.no([[0, 0]], TABLE, [0, 2, 0], 1, ([0, 1, 0], [[1, 0]]))
        self.no([[0, 0]], TABLE, [0, 2, 0], 1, ([0, 1, 0], [[0, 1]]))
        self.no([[0], [0]], TABLE, [0, 2, 0], 1, ([0, 1, 0], [[1], [0]]))
        self.no([[0], [0]], TABLE, [0, 2, 0], 1, ([0, 1, 0], [[0], [1]]))

    def test_prices_of_another_length(self):
        rolls, order = [[0, 0], [9]], [0, 2, 0]
        self.yes(rolls, TABLE, order, 1, ([0, 1, 0], [[1, 1], [0]]))
        for lists in ([[1], [0]], [[1, 1, 0], [0]], [[1, 1], []], [[1, 1], [0, 0]], [[], []], [[1, 1], [0] * 203]):
            self.no(rolls, TABLE, order, 1, ([0, 1, 0], lists))

    def test_lists_too_few_and_too_many(self):
        rolls, order = [[0, 0], [9]], [0, 2, 0]
        for lists in ([], [[1, 1]], [[1, 1], [0], [0]], [[1, 1], [0], []], [[]] * 203, [[1, 1], [0]] * 2):
            self.no(rolls, TABLE, order, 1, ([0, 1, 0], lists))
            self.no(rolls, TABLE, order, -1, ([0, 1, 0], lists))
        self.no([], TABLE, order, 0, ([0, 1, 0], [[]]))
        self.yes([], TABLE, order, 1, ([0, 1, 0], []))
        self.no([[]], TABLE, order, 0, ([0, 1, 0], []))
        self.yes([[]], TABLE, order, 2, ([0, 1, 0], [[]]))

    def test_points_too_few_and_too_many(self):
        rolls, order = [[0, 0]], [0, 2, 0]
        for points in ([], [0], [0, 1], [0, 1, 0, 0], [0, 1, 0, 1], [0] * 203):
            self.no(rolls, TABLE, order, 1, (points, [[1, 1]]))
            self.no(rolls, TABLE, order, 0, (points, [[1, 1]]))
            self.no(rolls, TABLE, order, -WIDE, (points, [[1, 1]]))
        self.no([], [], [], 0, ([0], []))
        self.yes([], [], [], 0, ([], []))

    def test_points_beyond_their_bounds(self):
        rolls, order = [[0, 0]], [0, 2, 0]
        self.yes(rolls, TABLE, order, 1, ([0, TOP, 0], [[TOP, TOP]]))
        self.no(rolls, TABLE, order, 1, ([0, TOP + 1, 0], [[TOP + 1, TOP + 1]]))
        self.no(rolls, TABLE, order, 1, ([0, WIDE, 0], [[WIDE, WIDE]]))
        for point in (-1, -TOP, -WIDE, TOP + 1, WIDE):
            for place in range(3):
                points = [0, 0, 0]
                points[place] = point
                self.no(rolls, TABLE, order, 0, (points, [[WIDE, WIDE]]))
                self.no(rolls, TABLE, order, -1, (points, [[WIDE, WIDE]]))
                self.no(rolls, TABLE, order, -1, (points, [[0, 0]]))

    def test_the_number_one_above_and_one_below(self):
        for rolls, table, order in order_cases(24):
            number, paper = floor(rolls, table, order)
            self.yes(rolls, table, order, number, paper)
            self.no(rolls, table, order, number + 1, paper)
            self.yes(rolls, table, order, number - 1, paper)
            self.no(rolls, table, order, WIDE, paper)
            self.yes(rolls, table, order, -1, paper)
            self.yes(rolls, table, order, -WIDE, paper)

    def test_prices_below_nought(self):
        self.no([[9, 9]], TABLE, [0, 1, 0], 0, ([0, 1, 0], [[-1, 1]]))
        self.no([[0, 9]], TABLE, [0, 1, 0], 0, ([0, 1, 0], [[2, -1]]))
        self.no([[0, 0]], [("b", 2, 5, 1)], [1], 0, ([1], [[2, -1]]))
        self.no([[9], [9]], TABLE, [0, 1, 0], 0, ([0, 1, 0], [[0], [-1]]))
        self.no([[9], [9]], TABLE, [0, 1, 0], 0, ([0, 1, 0], [[-WIDE], [WIDE]]))
        self.yes([[9], [9]], TABLE, [0, 1, 0], 3, ([0, 1, 0], [[0], [0]]))

    def test_great_prices(self):
        self.yes([[0, 0]], TABLE, [0, WIDE, 0], 2, ([0, 1, 0], [[1, WIDE - 2]]))
        self.no([[0, 0]], TABLE, [0, WIDE, 0], 2, ([0, 1, 0], [[1, WIDE - 1]]))
        self.yes([[0, 0]], TABLE, [0, WIDE, 0], 1, ([0, 1, 0], [[1, WIDE]]))

    def test_the_greatest_sums_count(self):
        rolls = [[0], [0] * 3, [0] * 2]
        paper = ([0, 1, 0], [[1], [1, 1, 1], [1, 1]])
        for wanted, number in ((1, 1), (3, 1), (4, 2), (5, 2), (6, 3), (7, 4)):
            self.yes(rolls, TABLE, [0, wanted, 0], number, paper)
            self.no(rolls, TABLE, [0, wanted, 0], number + 1, paper)

    def test_a_kind_without_points_costs_nothing(self):
        rolls, order = [[0, 0, 0]], [5, 2, 5]
        self.yes(rolls, TABLE, order, 0, ([0, 0, 0], [[0, 0, 0]]))
        self.no(rolls, TABLE, order, 1, ([0, 0, 0], [[0, 0, 0]]))
        self.yes(rolls, TABLE, order, 2, ([4, 0, 0], [[0, 4, 0]]))
        self.no(rolls, TABLE, order, 2, ([4, 1, 0], [[0, 4, 0]]))
        self.yes([[1, 0, 3]], TABLE, order, 2, ([0, 1, 0], [[0, 1, 0]]))

    def test_nothing_wanted(self):
        self.yes([[0]], TABLE, [0, 0, 0], 0, ([1, 1, 1], [[1]]))
        self.no([[0]], TABLE, [0, 0, 0], 0, ([1, 1, 1], [[0]]))
        self.no([[0]], TABLE, [0, 0, 0], 1, ([1, 1, 1], [[1]]))
        self.yes([[0]], TABLE, [0, 0, 0], 0, ([0, 0, 0], [[0]]))

    def test_word_by_word(self):
        table = [("b", 2, 5, 1), ("a", 1, 2, 0)]
        rolls = [[0, 0], [1]]
        for points in itertools.product((-1, 0, 1, 2), repeat=2):
            for first in itertools.product((-1, 0, 1, 2), repeat=2):
                for second in (-1, 0, 1):
                    paper = (list(points), [list(first), [second]])
                    for number in (-1, 0, 1, 2, 3, 4):
                        right = shows_floor_in_words(rolls, table, [1, 1], number, paper)
                        self.assertIs(shows_floor(rolls, table, [1, 1], number, paper), right)

    def test_twelve_long_rolls(self):
        points = [kind[1] for kind in FULL]
        kinds = pointed(FULL, points)
        lists = [prices(roll, kinds) for roll in TWELVE]
        number = floor_by(TWELVE, FULL, [4] * 8, points)
        self.yes(TWELVE, FULL, [4] * 8, number, (points, lists))
        self.no(TWELVE, FULL, [4] * 8, number + 1, (points, lists))
        dear = [cell for cell in range(200) if lists[11][cell] > 0][-1]
        lists[11][dear] -= 1
        self.no(TWELVE, FULL, [4] * 8, number, (points, lists))


class TestThePromise(unittest.TestCase):
    def test_never_above_the_fewest_rolls(self):
        for rolls, table, order in order_cases():
            number = floor(rolls, table, order)[0]
            try:
                self.assertLessEqual(number, fill(rolls, table, order)[0])
            except Short:
                self.assertLessEqual(number, len(rolls) + 1)

    def test_no_paper_shows_more(self):
        rolls, table, order = [[0, 0], [0, 1], [1]], [("b", 2, 5, 1), ("a", 1, 2, 0)], [1, 2]
        fewest = fill(rolls, table, order)[0]
        for points in itertools.product((0, 1, 2, 3), repeat=2):
            for cells in itertools.product((0, 1, 2), repeat=5):
                lists = [list(cells[:2]), list(cells[2:4]), list(cells[4:])]
                self.assertIs(shows_floor(rolls, table, order, fewest + 1, (list(points), lists)), False)

    def test_the_worths_by_points_are_those_of_best(self):
        for rolls, table, order in order_cases(6):
            for points in points_in_words(table, order):
                sums = [best(roll, pointed(table, points))[0] for roll in rolls]
                needed = sum(wanted * point for wanted, point in zip(order, points))
                self.assertEqual(floor_by(rolls, table, order, points), least_in_words(sums, needed))


class TestWhoseLists(unittest.TestCase):
    def test_all(self):
        for rolls, table, order in order_cases(6):
            points = mixed(1, len(table), (0, 1, 5))
            check_lists(self, pointed, table, points)
            check_lists(self, floor_by, rolls, table, order, points)
            check_lists(self, floor, rolls, table, order)
            number, paper = floor(rolls, table, order)
            check_lists(self, shows_floor, rolls, table, order, number, paper)
            check_lists(self, shows_floor, rolls, table, order, number + 1, paper)
            check_lists(self, shows_floor, rolls, table, order, number, (paper[0] + [1], paper[1]))

    def test_one_roll_handed_in_twice(self):
        roll = [0, 0]
        lists = floor([roll, roll], TABLE, [1, 1, 0])[1][1]
        self.assertIsNot(lists[0], lists[1])
        self.assertEqual(roll, [0, 0])


if __name__ == "__main__":
    unittest.main()
