"""Promise 14, what promise 5 says of counts and lists, and promises 2, 3 and 4 for the functions of counts."""

import unittest

from selvage.best import best
from selvage.counts import all_best, best_count, cutting_count
from selvage.errors import TooMany
from selvage.judge import amount
from selvage.rolls import turned
from trying import (
    FULL, LONG, TABLES, TOP, best_tried, check_lists, cuttings, mixed, small_cases, small_rolls,
)

ALIKE = [(name, 1, 5, 0) for name in "hbgcfade"]
LONG_ROLLS = ([0] * 200, [1] * 200, [TOP] * 200, LONG, mixed(9, 200, (0, 0, 0, 0, 1, 4)))


def counted_from_the_front(roll, table):
    """The number of all cuttings, and of the best ones, piece by piece from the roll's other side."""
    length = len(roll)
    total, worth, count = [1] * (length + 1), [0] * (length + 1), [1] * (length + 1)
    for place in range(length - 1, -1, -1):
        total[place] = total[place + 1]
        worth[place], count[place] = worth[place + 1], count[place + 1]
        for name, width, value, allowed in table:
            end = place + width
            if end > length or sum(roll[place:end]) > allowed:
                continue
            total[place] += total[end]
            if worth[end] + value > worth[place]:
                worth[place], count[place] = worth[end] + value, count[end]
            elif worth[end] + value == worth[place]:
                count[place] += count[end]
    return total[0], count[0]


class TestCounts(unittest.TestCase):
    def counts(self, roll, table, total, count):
        self.assertEqual(cutting_count(roll, table), total, (roll, table))
        self.assertEqual(best_count(roll, table), count, (roll, table))
        self.assertIs(type(cutting_count(roll, table)), int)
        self.assertIs(type(best_count(roll, table)), int)

    def test_ordinary(self):
        self.counts([0, 0, 0], [("a", 2, 5, 0)], 3, 2)
        self.counts([0, 0, 0], [("a", 1, 2, 0), ("b", 2, 4, 0)], 12, 3)
        self.counts([0, 9, 0], [("a", 1, 2, 0), ("b", 1, 2, 0)], 9, 4)
        self.counts([9, 9], [("a", 1, 2, 0)], 1, 1)

    def test_without_cells_and_without_kinds(self):
        for table in TABLES + (FULL,):
            self.counts([], table, 1, 1)
        for roll in ([], [0], [TOP, 0], [0] * 200):
            self.counts(roll, [], 1, 1)

    def test_against_trying(self):
        for roll, table in small_cases():
            self.counts(roll, table, len(cuttings(roll, table)), len(best_tried(roll, table)))

    def test_two_hundred_cells(self):
        self.counts([0] * 200, ALIKE, 9 ** 200, 8 ** 200)
        self.counts([0] * 200, ALIKE[:1], 2 ** 200, 1)
        self.counts([1] * 200, ALIKE, 1, 1)
        self.counts([0] * 199 + [1], ALIKE, 9 ** 199, 8 ** 199)
        self.counts([0] * 200, [("a", 200, 1, 0)], 2, 1)
        self.counts([0] * 200, [("a", 199, 1, 0)], 3, 2)
        self.counts([0] * 200, [("a", 3, 7, 0)], self.threes(200), 67 * 68 // 2)

    def threes(self, length):
        ways = [1, 1, 1]
        while len(ways) <= length:
            ways.append(ways[-1] + ways[-3])
        return ways[length]

    def test_eight_kinds(self):
        for roll in LONG_ROLLS:
            for table in (FULL, ALIKE, [(name, width, 5, 9) for name, width in zip("abcdefgh", range(1, 9))]):
                self.counts(roll, table, *counted_from_the_front(roll, table))
        same = [(name, width, 10 * width, 3) for name, width in zip("abcdefgh", (2, 3, 4, 5, 6, 7, 8, 9))]
        self.assertGreater(best_count([0] * 200, same), 10 ** 30)
        for roll in LONG_ROLLS:
            self.counts(roll, same, *counted_from_the_front(roll, same))

    def test_turned_about(self):
        for roll, table in [(roll, FULL) for roll in LONG_ROLLS] + list(small_cases(3)):
            self.assertEqual(cutting_count(turned(roll), table), cutting_count(roll, table))
            self.assertEqual(best_count(turned(roll), table), best_count(roll, table))


class TestAllBest(unittest.TestCase):
    def told(self, roll, table, most, right):
        self.assertEqual(all_best(roll, table, most), right, (roll, table))

    def refused(self, roll, table, most):
        with self.assertRaises(TooMany) as caught:
            all_best(roll, table, most)
        self.assertIs(type(caught.exception), TooMany)
        self.assertEqual(caught.exception.most, most)
        self.assertIs(type(caught.exception.most), int)

    def just(self, roll, table, right):
        self.assertEqual(best_count(roll, table), len(right))
        self.told(roll, table, 200, right)
        self.told(roll, table, len(right), right)
        self.refused(roll, table, len(right) - 1)
        self.refused(roll, table, 0)

    def test_ordinary(self):
        self.just([0, 0, 0], [("a", 2, 5, 0)], [[(0, "a")], [(1, "a")]])
        one, two = ("one", 1, 2, 0), ("two", 2, 4, 0)
        right = [
            [(0, "one"), (1, "one"), (2, "one")], [(0, "one"), (1, "two")], [(0, "two"), (2, "one")],
        ]
        self.just([0, 0, 0], [one, two], right)
        self.just([0, 0, 0], [two, one], right)

    def test_python_orders_them(self):
        table = [("b", 1, 3, 0), ("a", 2, 3, 0), ("aa", 3, 3, 0)]
        self.just([1, 0], [table[0]], [[(1, "b")]])
        self.just([1, 0, 0], table[1:], [[(1, "a")]])
        self.just([0, 0, 0], table[1:], [[(0, "a")], [(0, "aa")], [(1, "a")]])
        wide = [("z", 5, 9, 0), ("y", 5, 9, 0)]
        self.just([0] * 9, wide, [[(place, name)] for place in range(5) for name in "yz"])
        self.just([0] * 12, [("k", 11, 1, 0)], [[(0, "k")], [(1, "k")]])

    def test_without_cells_and_without_kinds(self):
        for table in TABLES + (FULL,):
            self.just([], table, [[]])
        for roll in ([0], [TOP, 0], [0] * 200):
            self.just(roll, [], [[]])
        self.just([TOP] * 200, FULL, [[]])

    def test_against_trying(self):
        for roll, table in small_cases():
            right = best_tried(roll, table)
            if len(right) <= 200:
                self.just(roll, table, right)
            else:
                self.refused(roll, table, 200)

    def test_many_worths_alike(self):
        table = [("d", 2, 2, 3), ("c", 1, 1, 0), ("b", 3, 3, 1), ("a", 1, 1, 1)]
        for roll in small_rolls(5, (0, 1, 2)):
            right = best_tried(roll, table)
            if len(right) <= 200:
                self.just(roll, table, right)
            else:
                self.refused(roll, table, 200)

    def test_just_two_hundred_and_one_more(self):
        eight = [(name, 25, 3, 0) for name in "hgfedcba"]
        self.just([0] * 49, eight, [[(place, name)] for place in range(25) for name in "abcdefgh"])
        three = [(name, 67, 3, 0) for name in "cab"]
        self.refused([0] * 133, three, 200)
        self.refused([0] * 133, three, 0)
        self.assertEqual(best_count([0] * 133, three), 201)
        self.just([0] * 132, three, [[(place, name)] for place in range(66) for name in "abc"])

    def test_very_many(self):
        for most in (0, 1, 17, 199, 200):
            self.refused([0] * 200, ALIKE, most)
            self.refused([0] * 200, [("a", 3, 7, 0)], most)

    def test_few_at_the_end_of_very_many(self):
        # The first cells alone have very many best cuttings, the whole roll has one.
        table = [("w", 200, 10 ** 6, 0)] + ALIKE[:7]
        self.just([0] * 200, table, [[(0, "w")]])
        table = [("w", 199, 10 ** 6, 0), ("v", 200, 10 ** 6 + 5, 0)] + ALIKE[:2]
        self.assertEqual(best_count([0] * 199, ALIKE), 8 ** 199)
        self.just([0] * 200, table, [
            [(0, "b"), (1, "w")], [(0, "h"), (1, "w")], [(0, "v")], [(0, "w"), (199, "b")], [(0, "w"), (199, "h")],
        ])

    def test_two_hundred_cells(self):
        step = [("a", 1, 1, 0)]
        self.just([0] * 200, step, [[(place, "a") for place in range(200)]])
        self.just([0] * 200, [("a", 101, 1, 0)], [[(place, "a")] for place in range(100)])

    def test_the_told_one_is_among_them(self):
        for roll, table in small_cases():
            worth, cutting = best(roll, table)
            if best_count(roll, table) <= 200:
                told = all_best(roll, table, 200)
                self.assertIn(cutting, told)
                self.assertEqual({amount(roll, table, some) for some in told}, {worth})

    def test_taken_as_soon_as_it_is_good(self):
        roll = [0, 0, 0]
        self.refused(roll, [("a", 2, 5, 0)], 1)
        self.told(roll, [("a", 2, 5, 0)], 2, [[(0, "a")], [(1, "a")]])
        roll[0] = 1
        self.told(roll, [("a", 2, 5, 0)], 1, [[(1, "a")]])


class TestWhoseLists(unittest.TestCase):
    def test_counts(self):
        for ask in (cutting_count, best_count):
            check_lists(self, ask, LONG, FULL)
            check_lists(self, ask, [], [])

    def test_all_best(self):
        for table in TABLES:
            for roll in ([], [0], [0, 1, 3, 0, 0]):
                check_lists(self, all_best, roll, table, 200)
                check_lists(self, all_best, roll, table, 1)
                check_lists(self, all_best, roll, table, 0)
        check_lists(self, all_best, LONG, FULL, 200)


if __name__ == "__main__":
    unittest.main()
