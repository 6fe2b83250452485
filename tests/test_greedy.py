"""Promise 29, and promises 2, 3 and 5 for greedy."""

import unittest

from selvage.ceilings import ceiling
from selvage.filling import fill, leavings, richest
from selvage.greedy import greedy
from selvage.orders import plan_left
from trying import FULL, LONG, TABLES, TOP, WIDE, check_lists, order_cases, worth_of

TABLE = [("b", 2, 5, 1), ("a", 1, 2, 0), ("abc", 3, 9, 4)]


def greedy_in_words(rolls, table, order):
    """Promise 29 word by word."""
    wanted = {kind[0]: number for kind, number in zip(table, order)}
    plan = []
    for roll in rolls:
        plan.append([])
        place = 0
        while place < len(roll):
            fitting = [
                (name, width) for name, width, worth, allowed in table
                if wanted[name] > 0 and place + width <= len(roll) and sum(roll[place:place + width]) <= allowed
            ]
            if fitting:
                plan[-1].append((place, fitting[0][0]))
                wanted[fitting[0][0]] -= 1
                place += fitting[0][1]
            else:
                place += 1
    return plan


class TestGreedy(unittest.TestCase):
    def told(self, rolls, table, order, plan):
        told = greedy(rolls, table, order)
        self.assertEqual(told, plan, (rolls, table, order))
        self.assertIs(type(told), list)
        for cutting in told:
            self.assertIs(type(cutting), list)

    def test_ordinary(self):
        self.told([[0] * 5, [0, 0, 0]], TABLE, [1, 2, 1], [[(0, "b"), (2, "a"), (3, "a")], [(0, "abc")]])
        self.told([[0, 9, 0, 0]], TABLE, [1, 9, 9], [[(0, "a"), (2, "b")]])

    def test_the_first_in_the_table_of_those_that_fit(self):
        one = [("a", 1, 1, 0), ("b", 2, 9, 0), ("c", 3, 99, 0)]
        self.told([[0] * 3], one, [3, 1, 1], [[(0, "a"), (1, "a"), (2, "a")]])
        self.told([[0] * 3], one[::-1], [1, 1, 3], [[(0, "c")]])
        self.told([[0] * 3], [one[1], one[0], one[2]], [1, 3, 1], [[(0, "b"), (2, "a")]])

    def test_a_kind_that_does_not_fit_is_passed_over(self):
        self.told([[3, 0, 0, 0]], TABLE, [9, 9, 9], [[(0, "abc"), (3, "a")]])
        self.told([[9, 0, 0]], TABLE, [9, 9, 9], [[(1, "b")]])
        self.told([[0]], TABLE, [9, 9, 9], [[(0, "a")]])

    def test_the_last_one_wanted_is_cut_and_then_no_more(self):
        table = [("a", 1, 1, 0), ("b", 1, 1, 0)]
        self.told([[0] * 4], table, [1, 2], [[(0, "a"), (1, "b"), (2, "b")]])
        self.told([[0], [0], [0]], table, [1, 1], [[(0, "a")], [(0, "b")], []])
        self.told([[0, 0], [0, 0]], table, [3, 9], [[(0, "a"), (1, "a")], [(0, "a"), (1, "b")]])

    def test_a_kind_that_is_not_wanted(self):
        table = [("a", 1, 1, 0), ("b", 2, 1, 0)]
        self.told([[0] * 5], table, [0, 9], [[(0, "b"), (2, "b")]])
        self.told([[0] * 5], table, [0, 1], [[(0, "b")]])

    def test_nothing(self):
        self.told([], TABLE, [1, 1, 1], [])
        self.told([], [], [], [])
        self.told([[], []], TABLE, [1, 1, 1], [[], []])
        self.told([[0, 0], [0]], TABLE, [0, 0, 0], [[], []])
        self.told([[0, 0], [0]], [], [], [[], []])
        self.told([[TOP], [TOP, TOP]], TABLE, [9, 9, 9], [[], []])

    def test_great_numbers_and_long_rolls(self):
        self.told([[0] * 200] * 12, [("a", 1, 1, 0)], [WIDE], [[(place, "a") for place in range(200)]] * 12)
        self.told([[0] * 200] * 12, [("a", 200, 1, 0)], [2], [[(0, "a")]] * 2 + [[]] * 10)
        self.told([LONG] * 12, FULL, [9, 8, 7, 6, 5, 4, 3, 2], greedy_in_words([LONG] * 12, FULL, [9, 8, 7, 6, 5, 4, 3, 2]))

    def test_not_the_best(self):
        rolls, table = [[0, 0]], [("a", 1, 1, 0), ("b", 2, 9, 0)]
        self.told(rolls, table, [1, 1], [[(0, "a")]])
        self.assertEqual(richest(rolls, table, [1, 1])[0], 9)

    def test_word_by_word(self):
        for rolls, table, order in order_cases():
            self.told(rolls, table, order, greedy_in_words(rolls, table, order))

    def test_a_plan_that_cuts_no_more_than_is_wanted(self):
        for rolls, table, order in order_cases(24):
            plan = greedy(rolls, table, order)
            left = plan_left(rolls, table, order, plan)
            self.assertIn(left, leavings(rolls, table, order))
            worth = sum(worth_of(table, cutting) for cutting in plan)
            self.assertLessEqual(worth, richest(rolls, table, order)[0])
            self.assertLessEqual(worth, ceiling(rolls, table, order)[0])
            if left == [0] * len(table):
                self.assertLessEqual(fill(rolls, table, order)[0], len([cutting for cutting in plan if cutting]))


class TestWhoseLists(unittest.TestCase):
    def test_all(self):
        for rolls, table, order in order_cases(12):
            check_lists(self, greedy, rolls, table, order)

    def test_one_roll_handed_in_twice(self):
        roll = [0, 0]
        plan = greedy([roll, roll, roll], TABLE, [1, 0, 0])
        self.assertEqual(plan, [[(0, "b")], [], []])
        self.assertEqual(len({id(cutting) for cutting in plan}), 3)
        self.assertEqual(roll, [0, 0])


if __name__ == "__main__":
    unittest.main()
