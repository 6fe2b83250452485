"""Promise 25, what promise 5 says of orders filled, and promises 2, 3 and 4 for the functions of filling."""

import itertools
import unittest

from selvage.errors import Short, TooBig
from selvage.filling import fill, leavings, richest
from selvage.orders import plan_left, states
from trying import FULL, LONG, TABLES, TOP, WIDE, check_lists, mixed, order_cases, plans_tried, worth_of

TABLE = [("b", 2, 5, 1), ("a", 1, 2, 0), ("abc", 3, 9, 4)]
SIX = [("p", 3, 31, 2), ("q", 5, 52, 1), ("r", 2, 70, 3), ("s", 4, 113, 0), ("t", 1, 131, 6), ("u", 7, 171, 5)]
TWELVE = [LONG[at * 14:at * 14 + 40] for at in range(12)]


def used(plan):
    return len([cutting for cutting in plan if cutting])


class Case(unittest.TestCase):
    def refused(self, error, ask, *arguments):
        with self.assertRaises(error) as caught:
            ask(*arguments)
        self.assertIs(type(caught.exception), error)

    def check_leavings(self, rolls, table, order, right):
        told = leavings(rolls, table, order)
        self.assertEqual(told, right, (rolls, table, order))
        self.assertIs(type(told), list)
        for left in told:
            self.assertIs(type(left), list)

    def check_fill(self, rolls, table, order, number):
        told = fill(rolls, table, order)
        self.assertIs(type(told), tuple)
        self.assertEqual(told[0], number, (rolls, table, order))
        self.assertEqual(plan_left(rolls, table, order, told[1]), [0] * len(table), (rolls, table, order, told))
        self.assertEqual(used(told[1]), number)

    def check_richest(self, rolls, table, order, worth):
        told = richest(rolls, table, order)
        self.assertIs(type(told), tuple)
        self.assertEqual(told[0], worth, (rolls, table, order))
        self.assertIsNotNone(plan_left(rolls, table, order, told[1]), (rolls, table, order, told))
        self.assertEqual(sum(worth_of(table, cutting) for cutting in told[1]), worth)


class TestLeavings(Case):
    def test_ordinary(self):
        rolls = [[0, 0], [1, 0]]
        right = [[0, 1, 1], [0, 2, 1], [1, 0, 1], [1, 1, 1], [1, 2, 1]]
        self.check_leavings(rolls, TABLE, [1, 2, 1], [[0, 0, 1]] + right)

    def test_no_rolls_and_rolls_without_cells(self):
        for rolls in ([], [[]], [[], [], []]):
            self.check_leavings(rolls, TABLE, [1, 2, 1], [[1, 2, 1]])
            self.check_leavings(rolls, TABLE, [0, 0, 0], [[0, 0, 0]])
            self.check_leavings(rolls, [], [], [[]])

    def test_order_of_noughts(self):
        self.check_leavings([[0, 0, 0]] * 3, TABLE, [0, 0, 0], [[0, 0, 0]])
        self.check_leavings(TWELVE, FULL, [0] * 8, [[0] * 8])

    def test_table_without_kinds(self):
        self.check_leavings([[0, 0, 0], [4]], [], [], [[]])

    def test_each_once_though_there_are_many_plans(self):
        self.check_leavings([[0, 0, 0, 0]] * 3, [("a", 1, 1, 0)], [3], [[0], [1], [2], [3]])
        table = [("a", 1, 1, 0), ("b", 1, 1, 0)]
        right = [[0, 2], [1, 1], [1, 2], [2, 0], [2, 1], [2, 2]]
        self.check_leavings([[0], [0]], table, [2, 2], right)

    def test_rising_as_python_orders_lists(self):
        table = [("a", 1, 1, 0)]
        self.check_leavings([[0] * 12], table, [11], [[left] for left in range(12)])
        self.check_leavings([[0] * 10], table, [11], [[left] for left in range(1, 12)])

    def test_against_trying(self):
        for rolls, table, order in order_cases():
            right = sorted({left for used_rolls, left in plans_tried(rolls, table, order)})
            self.check_leavings(rolls, table, order, [list(left) for left in right])

    def test_turned_order_of_rolls(self):
        for rolls, table, order in order_cases(12):
            self.assertEqual(leavings(rolls[::-1], table, order), leavings(rolls, table, order))


class TestFill(Case):
    def test_ordinary(self):
        self.check_fill([[0, 0], [0, 0, 0], [1]], TABLE, [1, 1, 0], 1)
        self.check_fill([[0, 0], [0, 0, 0], [1]], TABLE, [1, 2, 0], 2)
        self.check_fill([[0, 0], [0, 0, 0], [1]], TABLE, [0, 2, 1], 2)

    def test_not_the_first_rolls_that_come(self):
        self.check_fill([[0], [0], [0], [0] * 3], [("a", 1, 2, 0)], [3], 1)
        self.check_fill([[0] * 3, [0], [0], [0]], [("a", 1, 2, 0)], [3], 1)
        self.check_fill([[0] * 2, [0] * 3, [0] * 2, [0] * 3], [("a", 1, 2, 0)], [5], 2)
        self.check_fill([[0] * 2, [0] * 3, [0] * 2, [0] * 3], [("a", 1, 2, 0)], [7], 3)

    def test_each_kind_from_where_it_fits(self):
        table = [("a", 1, 2, 0), ("b", 1, 2, 5)]
        self.check_fill([[5], [0]], table, [1, 1], 2)
        self.check_fill([[0], [5]], table, [1, 1], 2)
        self.check_fill([[0], [5], [0, 5]], table, [1, 1], 1)
        self.refused(Short, fill, [[5], [5]], table, [1, 1])

    def test_short(self):
        self.refused(Short, fill, [[0, 0]], TABLE, [0, 3, 0])
        self.refused(Short, fill, [[0, 0]], TABLE, [1, 1, 0])
        self.refused(Short, fill, [], TABLE, [0, 1, 0])
        self.refused(Short, fill, [[]], TABLE, [0, 1, 0])
        self.refused(Short, fill, [[9, 9, 9]], TABLE, [0, 0, 1])
        self.refused(Short, fill, [[0, 0, 0]], [("a", 200, 1, 0)], [1])

    def test_an_order_of_nothing(self):
        for rolls in ([], [[]], [[0, 0], [], [1]], TWELVE):
            for table in TABLES + (FULL,):
                self.assertEqual(fill(rolls, table, [0] * len(table)), (0, [[] for roll in rolls]))

    def test_against_trying(self):
        filled = 0
        for rolls, table, order in order_cases():
            right = [number for number, left in plans_tried(rolls, table, order) if sum(left) == 0]
            if right:
                self.check_fill(rolls, table, order, min(right))
                filled += 1
            else:
                self.refused(Short, fill, rolls, table, order)
        self.assertGreater(filled, 100)

    def test_filled_where_a_leaving_is_nothing(self):
        for rolls, table, order in order_cases(12):
            if leavings(rolls, table, order)[0] == [0] * len(table):
                fill(rolls, table, order)
            else:
                self.refused(Short, fill, rolls, table, order)

    def test_twelve_rolls(self):
        single = [("a", 1, TOP, 0)]
        self.check_fill([[0] * 10] * 12, single, [119], 12)
        self.check_fill([[0] * 11] * 12, single, [119], 11)
        self.check_fill([[0] * 40] * 12, single, [119], 3)
        self.refused(Short, fill, [[0] * 9] * 12, single, [119])
        self.check_fill([[0] * length for length in range(12)], single, [56], 7)
        self.check_fill([[0] * length for length in range(12)], single, [57], 8)

    def test_each_roll_gives_one(self):
        roll = [9, 0, 0, 0, 9]
        self.check_fill([roll] * 12, [("a", 2, 1, 0), ("b", 3, 1, 0)], [5, 7], 12)
        self.refused(Short, fill, [roll] * 11, [("a", 2, 1, 0), ("b", 3, 1, 0)], [5, 7])

    def test_taken_as_soon_as_it_is_good(self):
        rolls = [[0, 0], [0]]
        self.refused(Short, fill, rolls, TABLE, [0, 4, 0])
        rolls[1].append(0)
        self.check_fill(rolls, TABLE, [0, 4, 0], 2)
        rolls[1].extend([0] * 39)
        self.refused(TooBig, fill, rolls, TABLE, [0, 4, 0])
        rolls[1].pop()
        self.check_fill(rolls, TABLE, [0, 4, 0], 1)


class TestRichest(Case):
    def test_ordinary(self):
        self.check_richest([[0, 0, 0], [0, 0]], TABLE, [1, 1, 1], 14)
        self.check_richest([[0, 0, 0], [0, 0]], TABLE, [0, 1, 0], 2)
        self.check_richest([[0, 0, 0], [0, 0]], TABLE, [2, 0, 0], 10)
        self.check_richest([[0, 0, 0], [0, 0]], TABLE, [2, 3, 0], 12)

    def test_not_more_than_is_wanted(self):
        self.check_richest([[0] * 5, [0] * 5], [("a", 1, 3, 0), ("b", 1, 1, 0)], [2, 3], 9)
        self.check_richest([[0] * 5, [0] * 5], [("a", 1, 3, 0), ("b", 1, 1, 0)], [0, 3], 3)

    def test_not_the_most_pieces(self):
        self.check_richest([[0, 0, 0]], [("a", 1, 1, 0), ("b", 2, 5, 0)], [3, 1], 6)
        self.check_richest([[0, 0]], [("a", 1, 1, 0), ("b", 2, 5, 0)], [2, 1], 5)

    def test_nothing_to_cut(self):
        for rolls in ([], [[]], [[TOP, TOP], []]):
            self.check_richest(rolls, TABLE, [1, 2, 1], 0)
            self.assertEqual(richest(rolls, TABLE, [1, 2, 1]), (0, [[] for roll in rolls]))
        for rolls in ([], [[]], [[0, 0], [0]], TWELVE):
            self.assertEqual(richest(rolls, FULL, [0] * 8), (0, [[] for roll in rolls]))
            self.assertEqual(richest(rolls, [], []), (0, [[] for roll in rolls]))

    def test_great_worths(self):
        self.check_richest([[0] * 40] * 3, [("a", 1, TOP, 0)], [119], 119 * TOP)
        self.check_richest([[0] * 39] * 3, [("a", 1, TOP, 0)], [119], 117 * TOP)

    def test_against_trying(self):
        for rolls, table, order in order_cases():
            worths = [kind[2] for kind in table]
            right = [
                sum((wanted - rest) * worth for wanted, rest, worth in zip(order, left, worths))
                for number, left in plans_tried(rolls, table, order)
            ]
            self.check_richest(rolls, table, order, max(right))

    def test_never_refused_for_want_of_rolls(self):
        self.check_richest([[0, 0]], TABLE, [0, 3, 0], 4)
        self.check_richest([], TABLE, [0, 3, 0], 0)


class TestTooBig(Case):
    def refused_by_all(self, rolls, table, order):
        for ask in (leavings, fill, richest):
            self.refused(TooBig, ask, rolls, table, order)

    def taken_by_all(self, rolls, table, order):
        told = leavings(rolls, table, order)
        worth, plan = richest(rolls, table, order)
        self.assertIn(plan_left(rolls, table, order, plan), told)
        self.check_richest(rolls, table, order, worth)
        if [0] * len(table) in told:
            self.check_fill(rolls, table, order, fill(rolls, table, order)[0])
        else:
            self.refused(Short, fill, rolls, table, order)

    def test_cells(self):
        for order in ([1, 1, 1], [0, 0, 0], [0, 119, 0]):
            self.taken_by_all([[0] * 40], TABLE, order)
            self.refused_by_all([[0] * 41], TABLE, order)
            self.refused_by_all([[0] * 41, [], [0]], TABLE, order)
            self.refused_by_all([[0], [0] * 41, []], TABLE, order)
            self.refused_by_all([[0], [], [0] * 41], TABLE, order)
            self.refused_by_all([[0] * 200], TABLE, order)
        self.taken_by_all([[9] * 40] * 12, [], [])
        self.refused_by_all([[9] * 41], [], [])

    def test_states(self):
        for order in ([119, 0, 0], [0, 0, 119], [4, 7, 2], [3, 4, 5], [0, 9, 11]):
            self.assertEqual(states(order), 120)
            self.taken_by_all([[0] * 7, [0, 1] * 3], TABLE, order)
        for order in ([120, 0, 0], [10, 10, 0], [0, 0, 120], [1, 1, 30], [WIDE, 0, 0], [WIDE] * 3, [0, TOP, 0]):
            self.assertGreater(states(order), 120)
            self.refused_by_all([[0] * 7, [0, 1] * 3], TABLE, order)
            self.refused_by_all([], TABLE, order)
            self.refused_by_all([[]], TABLE, order)

    def test_ahead_of_short(self):
        self.refused(TooBig, fill, [[9] * 41], TABLE, [1, 0, 0])
        self.refused(TooBig, fill, [[9]], TABLE, [120, 0, 0])
        self.refused(TooBig, fill, [], TABLE, [120, 0, 0])
        self.refused(Short, fill, [[9] * 40], TABLE, [1, 0, 0])
        self.refused(Short, fill, [[9]], TABLE, [119, 0, 0])

    def test_not_for_the_number_of_rolls(self):
        self.taken_by_all([[0, 0]] * 12, TABLE, [2, 4, 0])
        self.taken_by_all([[0, 0]] * 13, TABLE, [2, 4, 0])

    def test_twelve_long_rolls_with_many_states(self):
        for order in ([1, 1, 1, 1, 1, 0], [4, 3, 2, 1, 0, 0], [0, 0, 0, 0, 119, 0]):
            self.taken_by_all(TWELVE, SIX, order)
        self.taken_by_all([[0] * 40] * 12, SIX, [0, 0, 2, 4, 0, 7])
        self.taken_by_all([[0] * 40] * 12, FULL, [0, 1, 0, 2, 0, 3, 4, 0])

    def test_fewest_of_twelve_long_rolls(self):
        table = [("w", 39, 1, 0), ("v", 20, 1, 0), ("u", 1, 1, 0)]
        self.check_fill([[0] * 40] * 12, table, [3, 4, 5], 6)
        self.check_fill([[0] * 40] * 12, table, [3, 5, 4], 6)
        self.check_fill([[0] * 40] * 12, table, [3, 7, 2], 7)
        rolls = [[0] * (40 - at) for at in range(12)]
        self.check_fill(rolls, table, [1, 4, 0], 4)
        self.check_fill(rolls, table, [2, 4, 0], 6)
        self.refused(Short, fill, rolls, table, [3, 4, 5])


def fewest_by_parts(rolls, table, order):
    """For longer rolls: how few of them, by trying which ones, and what their plans leave."""
    for number in range(len(rolls) + 1):
        for some in itertools.combinations(rolls, number):
            if leavings(list(some), table, order)[0] == [0] * len(table):
                return number
    return None


class TestThePromise(Case):
    def test_fewest_of_some_longer_rolls(self):
        for seed in range(8):
            rolls = [mixed(seed * 9 + at, 6 + 2 * at, (0, 0, 0, 0, 1, 3)) for at in range(5)]
            order = mixed(seed, 4, (0, 1, 1, 2, 2)) + [seed % 2, 0]
            right = fewest_by_parts(rolls, SIX, order)
            if right is None:
                self.refused(Short, fill, rolls, SIX, order)
            else:
                self.check_fill(rolls, SIX, order, right)

    def test_what_is_filled_is_worth_the_order(self):
        for rolls, table, order in order_cases(12):
            worth = sum(wanted * kind[2] for wanted, kind in zip(order, table))
            filled = [0] * len(table) in leavings(rolls, table, order)
            self.assertEqual(richest(rolls, table, order)[0] == worth, filled)


class TestWhoseLists(unittest.TestCase):
    def test_all(self):
        for rolls, table, order in order_cases(6):
            for ask in (leavings, fill, richest):
                check_lists(self, ask, rolls, table, order)
        for ask in (leavings, fill, richest):
            check_lists(self, ask, [[0] * 41], TABLE, [0, 0, 0])
            check_lists(self, ask, [[0, 0]], TABLE, [WIDE, 0, 0])

    def test_one_roll_handed_in_twice(self):
        roll = [0, 0]
        rolls = [roll, roll, roll]
        for ask in (fill, richest):
            plan = ask(rolls, TABLE, [1, 2, 0])[1]
            self.assertEqual(len({id(cutting) for cutting in plan}), 3)
        self.assertEqual(rolls, [[0, 0]] * 3)


if __name__ == "__main__":
    unittest.main()
