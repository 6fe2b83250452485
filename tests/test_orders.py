"""Promise 24, and promises 2, 3 and 4 for the functions of orders."""

import copy
import itertools
import unittest

from selvage.errors import NotAnOrder
from selvage.orders import checked_order, plan_left, states
from trying import FULL, TABLES, TOP, WIDE, check_lists, cut_of, cuttings, order_cases, spoil

TABLE = [("b", 2, 5, 1), ("a", 1, 2, 0), ("abc", 3, 9, 4)]
ROLLS = [[0, 0, 0, 0], [3, 0, 1], []]


def first_wrong(table, order):
    """The place that promise 24 names, word by word."""
    for place in range(len(order)):
        if order[place] < 0 or place > len(table) - 1:
            return place
    return len(order) if len(order) < len(table) else None


class TestCheckedOrder(unittest.TestCase):
    def good(self, table, order):
        told = checked_order(table, order)
        self.assertEqual(told, order)
        self.assertIs(type(told), list)
        self.assertIsNot(told, order)

    def refused(self, table, order, at):
        with self.assertRaises(NotAnOrder) as caught:
            checked_order(table, order)
        self.assertIs(type(caught.exception), NotAnOrder)
        self.assertEqual(caught.exception.at, at, (table, order))

    def test_ordinary(self):
        self.good(TABLE, [1, 0, 4])
        self.good(TABLE, [0, 0, 0])
        self.good(FULL, [0, 1, 2, 3, 4, 5, 6, 7])

    def test_without_kinds(self):
        self.good([], [])
        for order in ([0], [5], [-1], [0, -1], [WIDE], [-WIDE, 3], [0] * 203):
            self.refused([], order, 0)

    def test_great_numbers(self):
        self.good(TABLE, [WIDE, TOP, WIDE])
        self.refused(TABLE, [WIDE, -WIDE, WIDE], 1)
        self.refused(TABLE, [-WIDE, WIDE, WIDE], 0)
        self.refused(TABLE, [WIDE, WIDE, WIDE, WIDE], 3)
        self.refused(TABLE, [WIDE, WIDE], 2)

    def test_too_short(self):
        for length in range(8):
            self.refused(FULL, [1] * length, length)
            self.refused(FULL, [0] * length, length)
        self.refused(TABLE, [], 0)

    def test_too_long(self):
        for length in (9, 10, 100, 203):
            self.refused(FULL, [0] * length, 8)
        for length in (4, 5, 203):
            self.refused(TABLE, [1] * length, 3)

    def test_below_nought(self):
        for place in range(3):
            order = [1, 1, 1]
            order[place] = -1
            self.refused(TABLE, order, place)
            order[place] = 0
            self.good(TABLE, order)
        self.refused(TABLE, [-1, -1, -1], 0)
        self.refused(TABLE, [1, -1, -1], 1)

    def test_below_nought_in_a_list_of_another_length(self):
        self.refused(TABLE, [-1], 0)
        self.refused(TABLE, [1, -1], 1)
        self.refused(TABLE, [1, 1, -1, 1], 2)
        self.refused(TABLE, [1, 1, 1, -1], 3)
        self.refused(TABLE, [1, 1, 1, 1, -1], 3)
        self.refused(TABLE, [-1, 1, 1, 1], 0)
        self.refused(FULL, [1, 1, 1, -1, 1], 3)

    def test_word_by_word(self):
        for table in TABLES:
            for length in range(len(table) + 3):
                for some in itertools.product((-1, 0, 2), repeat=length):
                    at = first_wrong(table, some)
                    if at is None:
                        self.good(table, list(some))
                    else:
                        self.refused(table, list(some), at)

    def test_taken_as_soon_as_it_is_good(self):
        order = [1, 2]
        self.refused(TABLE, order, 2)
        order.append(-3)
        self.refused(TABLE, order, 2)
        order[2] = 3
        self.good(TABLE, order)


class TestStates(unittest.TestCase):
    def test_ordinary(self):
        self.assertEqual(states([1, 2, 3]), 24)
        self.assertEqual(states([4]), 5)
        self.assertEqual(states([3, 0, 3]), 16)

    def test_nothing(self):
        self.assertEqual(states([]), 1)
        for length in range(1, 9):
            self.assertEqual(states([0] * length), 1)

    def test_great_numbers(self):
        self.assertEqual(states([WIDE]), 10 ** 60)
        self.assertEqual(states([WIDE] * 8), 10 ** 480)
        self.assertEqual(states([WIDE, 0, 1]), 2 * 10 ** 60)

    def test_against_counting(self):
        for order in itertools.product(range(4), repeat=3):
            ways = itertools.product(*[range(wanted + 1) for wanted in order])
            self.assertEqual(states(list(order)), len(list(ways)))


class TestPlanLeft(unittest.TestCase):
    def told(self, rolls, table, order, plan, left):
        told = plan_left(rolls, table, order, plan)
        self.assertEqual(told, left, (rolls, table, order, plan))
        self.assertIs(type(told), type(left))

    def test_ordinary(self):
        plan = [[(0, "b"), (2, "a")], [(1, "b")], []]
        self.told(ROLLS, TABLE, [3, 2, 1], plan, [1, 1, 1])
        self.told(ROLLS, TABLE, [3, 2, 1], [[], [], []], [3, 2, 1])
        self.told(ROLLS, TABLE, [3, 2, 1], [[(1, "abc")], [(0, "abc")], []], None)
        self.told(ROLLS, TABLE, [3, 2, 2], [[(1, "abc")], [(0, "abc")], []], [3, 2, 0])

    def test_just_as_many_and_one_more(self):
        plan = [[(0, "a"), (1, "a"), (2, "a")], [(1, "a")], []]
        self.told(ROLLS, TABLE, [0, 4, 0], plan, [0, 0, 0])
        self.told(ROLLS, TABLE, [0, 5, 7], plan, [0, 1, 7])
        self.told(ROLLS, TABLE, [0, 3, 0], plan, None)
        self.told(ROLLS, TABLE, [9, 3, 9], plan, None)
        self.told(ROLLS, TABLE, [0, 0, 0], plan, None)
        self.told(ROLLS, TABLE, [0, 4, 0], plan[:1] + [[(1, "b")], []], None)

    def test_too_few_and_too_many_cuttings(self):
        for plan in ([], [[]], [[], []], [[], [], [], []], [[]] * 203):
            self.told(ROLLS, TABLE, [3, 2, 1], plan, None)
        self.told(ROLLS, TABLE, [3, 2, 1], [[(0, "b")]], None)
        self.told(ROLLS, TABLE, [3, 2, 1], [[(0, "b")], [], [], [(0, "b")]], None)

    def test_no_rolls(self):
        self.told([], TABLE, [3, 2, 1], [], [3, 2, 1])
        self.told([], TABLE, [0, 0, 0], [], [0, 0, 0])
        self.told([], [], [], [], [])
        self.told([], TABLE, [3, 2, 1], [[]], None)
        self.told([], TABLE, [3, 2, 1], [[(0, "a")]], None)

    def test_without_kinds(self):
        self.told([[0], [0]], [], [], [[], []], [])
        self.told([[0], [0]], [], [], [[]], None)
        self.told([[0], [0]], [], [], [[], [(0, "a")]], None)

    def test_no_cutting_within(self):
        wrong = (
            [(0, "b"), (1, "a")], [(2, "a"), (0, "b")], [(0, "a"), (0, "a")], [(3, "b")], [(-1, "a")],
            [(0, "c")], [(0, "")], [(0, "B")], [(WIDE, "a")], [(-WIDE, "a")], [(4, "a")],
        )
        for cutting in wrong:
            self.told(ROLLS, TABLE, [9, 9, 9], [cutting, [], []], None)
            self.told(ROLLS, TABLE, [9, 9, 9], [[(0, "a")], cutting, []], None)
            self.told(ROLLS, TABLE, [9, 9, 9], [[(0, "a")], [], cutting], None)
        self.told(ROLLS, TABLE, [9, 9, 9], [[], [(0, "a")], []], None)
        self.told(ROLLS, TABLE, [9, 9, 9], [[], [], [(0, "a")]], None)

    def test_the_cuttings_go_with_the_rolls_in_their_order(self):
        rolls = [[0, 9], [9, 0]]
        self.told(rolls, TABLE, [0, 2, 0], [[(0, "a")], [(1, "a")]], [0, 0, 0])
        self.told(rolls, TABLE, [0, 2, 0], [[(1, "a")], [(0, "a")]], None)

    def test_great_numbers(self):
        self.told(ROLLS, TABLE, [WIDE, WIDE, WIDE], [[(0, "b"), (2, "b")], [], []], [WIDE - 2, WIDE, WIDE])

    def test_twelve_long_rolls(self):
        rolls = [[0] * 200 for number in range(12)]
        plan = [[(place, "a") for place in range(200)] for number in range(12)]
        self.told(rolls, TABLE, [1, 2400, 1], plan, [1, 0, 1])
        self.told(rolls, TABLE, [1, 2399, 1], plan, None)

    def test_against_trying(self):
        for table in TABLES[:7]:
            for roll, other in (([0, 0, 1], [0, 1]), ([], [1, 0, 0]), ([3, 0], [0, 0])):
                for plan in itertools.product(cuttings(roll, table), cuttings(other, table)):
                    cut = [sum(some) for some in zip(*[cut_of(table, cutting) for cutting in plan])]
                    for order in itertools.product(range(3), repeat=len(table)):
                        left = [wanted - gone for wanted, gone in zip(order, cut)]
                        right = None if min(left, default=0) < 0 else left
                        self.told([roll, other], table, list(order), list(plan), right)


class TestWhoseLists(unittest.TestCase):
    def test_all(self):
        for order in ([], [1, 2, 3], [1, -1, 0], [1], [0, 0, 0, 0]):
            check_lists(self, checked_order, TABLE, order)
            check_lists(self, checked_order, [], order)
            check_lists(self, states, order)
        for plan in ([], [[], [], []], [[(0, "b")], [(0, "abc")], []], [[(0, "c")], [], []]):
            check_lists(self, plan_left, ROLLS, TABLE, [2, 2, 2], plan)
            check_lists(self, plan_left, ROLLS, TABLE, [0, 0, 0], plan)

    def test_one_list_handed_in_twice(self):
        roll, cutting = [0, 0], [(0, "a")]
        here = ([roll, roll], TABLE, [0, 2, 0], [cutting, cutting])
        before = copy.deepcopy(here)
        self.assertEqual(plan_left(*here), [0, 0, 0])
        self.assertEqual(here, before)

    def test_the_told_list_is_no_order_of_others(self):
        for rolls, table, order in order_cases(2):
            told = plan_left(rolls, table, order, [[] for roll in rolls])
            self.assertEqual(told, order)
            spoil(told)
            self.assertEqual(plan_left(rolls, table, order, [[] for roll in rolls]), order)


if __name__ == "__main__":
    unittest.main()
