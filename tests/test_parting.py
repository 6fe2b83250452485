"""Promises 16 and 17, and promises 2, 3 and 4 for the functions of parting."""

import itertools
import unittest

from selvage.best import best, heights
from selvage.errors import NoParting, NoPlace
from selvage.parting import best_parting, free_places, parted, parting_loss
from selvage.rolls import joined
from trying import FULL, LONG, TABLES, TOP, WIDE, check_lists, greatest, mixed, small_cases, small_rolls

TABLE = [("b", 2, 5, 1), ("a", 1, 2, 0), ("abc", 3, 9, 4)]


class TestPartingLoss(unittest.TestCase):
    def refused(self, roll, table, place):
        with self.assertRaises(NoPlace) as caught:
            parting_loss(roll, table, place)
        self.assertIs(type(caught.exception), NoPlace)

    def test_ordinary(self):
        told = [parting_loss([0] * 6, [("abc", 3, 9, 0), ("a", 1, 1, 0)], place) for place in range(7)]
        self.assertEqual(told, [0, 6, 6, 0, 6, 6, 0])
        told = [parting_loss([0] * 4, [("b", 2, 5, 0)], place) for place in range(5)]
        self.assertEqual(told, [0, 5, 0, 5, 0])

    def test_against_trying(self):
        for roll, table in small_cases():
            for place in range(len(roll) + 1):
                told = parting_loss(roll, table, place)
                parts = greatest(roll[:place], table) + greatest(roll[place:], table)
                self.assertEqual(told, greatest(roll, table) - parts)
                self.assertIs(type(told), int)

    def test_both_ends(self):
        for roll, table in list(small_cases(3)) + [(LONG, FULL), ([0] * 200, FULL), ([], FULL)]:
            self.assertEqual(parting_loss(roll, table, 0), 0)
            self.assertEqual(parting_loss(roll, table, len(roll)), 0)

    def test_no_place(self):
        for roll, table in (([], []), ([], TABLE), ([0], TABLE), ([0] * 6, []), (LONG, FULL)):
            for place in (-1, -2, -len(roll) - 1, -WIDE, len(roll) + 1, len(roll) + 2, TOP, WIDE):
                self.refused(roll, table, place)

    def test_two_hundred_cells(self):
        for place in range(201):
            told = parting_loss([0] * 200, [("a", 200, TOP, 0)], place)
            self.assertEqual(told, 0 if place in (0, 200) else TOP)
        for place in range(0, 201, 9):
            parts = best(LONG[:place], FULL)[0] + best(LONG[place:], FULL)[0]
            self.assertEqual(parting_loss(LONG, FULL, place), best(LONG, FULL)[0] - parts)

    def test_taken_as_soon_as_it_is_good(self):
        roll = [0, 0]
        self.refused(roll, TABLE, 3)
        roll.append(0)
        self.assertEqual(parting_loss(roll, TABLE, 3), 0)


class TestFreePlaces(unittest.TestCase):
    def test_ordinary(self):
        self.assertEqual(free_places([0] * 6, [("abc", 3, 9, 0), ("a", 1, 1, 0)]), [0, 3, 6])
        self.assertEqual(free_places([0] * 3, [("abc", 3, 9, 0)]), [0, 3])
        self.assertEqual(free_places([0] * 5, [("abc", 3, 9, 0)]), [0, 1, 2, 3, 4, 5])
        self.assertEqual(free_places([0, 0], [("a", 1, 1, 0)]), [0, 1, 2])

    def test_without_cells_and_without_kinds(self):
        for table in TABLES + (FULL,):
            self.assertEqual(free_places([], table), [0])
        for length in (1, 2, 200):
            self.assertEqual(free_places([0] * length, []), list(range(length + 1)))
            self.assertEqual(free_places([TOP] * length, FULL), list(range(length + 1)))

    def test_against_trying(self):
        for roll, table in small_cases():
            right = [
                place for place in range(len(roll) + 1)
                if greatest(roll[:place], table) + greatest(roll[place:], table) == greatest(roll, table)
            ]
            self.assertEqual(free_places(roll, table), right)

    def test_two_hundred_cells(self):
        self.assertEqual(free_places([0] * 200, [("a", 200, 1, 0)]), [0, 200])
        self.assertEqual(free_places([0] * 200, [("a", 8, 1, 0)]), list(range(0, 201, 8)))
        told = free_places(LONG, FULL)
        self.assertEqual(told, [place for place in range(201) if parting_loss(LONG, FULL, place) == 0])


class TestParted(unittest.TestCase):
    def refused(self, roll, places):
        with self.assertRaises(NoPlace) as caught:
            parted(roll, places)
        self.assertIs(type(caught.exception), NoPlace)

    def test_ordinary(self):
        self.assertEqual(parted([4, 5, 6, 7], [1, 3]), [[4], [5, 6], [7]])
        self.assertEqual(parted([4, 5, 6, 7], [2]), [[4, 5], [6, 7]])
        self.assertEqual(parted([4, 5, 6, 7], [3]), [[4, 5, 6], [7]])

    def test_no_places(self):
        for roll in ([], [3], [3, 4], LONG):
            self.assertEqual(parted(roll, []), [roll])

    def test_all_places(self):
        for length in (1, 2, 3, 200):
            roll = list(range(length))
            self.assertEqual(parted(roll, list(range(1, length))), [[cell] for cell in roll])

    def test_wrong_places(self):
        roll = [4, 5, 6, 7]
        for place in (0, -1, -4, -WIDE, 4, 5, 203, TOP, WIDE):
            self.refused(roll, [place])
            self.refused(roll, [1, place])
            self.refused(roll, [place, 3])
            self.refused(roll, [1, 2, 3, place])
        for places in ([1, 1], [2, 1], [1, 3, 2], [1, 3, 3], [3, 1, 2], [1, 2, 3, 1], [2] * 203):
            self.refused(roll, places)
        for place in (-1, 0, 1):
            self.refused([], [place])
            self.refused([7], [place])

    def test_against_trying(self):
        for length in range(5):
            roll = list(range(length))
            for count in range(4):
                for some in itertools.product(range(-1, 6), repeat=count):
                    places = list(some)
                    if places == sorted(set(places)) and all(1 <= place < length for place in places):
                        ends = [0] + places + [length]
                        right = [roll[begin:end] for begin, end in zip(ends, ends[1:])]
                        self.assertEqual(parted(roll, places), right)
                        self.assertEqual(joined(parted(roll, places)), roll)
                    else:
                        self.refused(roll, places)

    def test_taken_as_soon_as_it_is_good(self):
        places = [2, 2]
        self.refused([4, 5, 6, 7], places)
        places[1] = 3
        self.assertEqual(parted([4, 5, 6, 7], places), [[4, 5], [6], [7]])


def parting_tried(roll, table, parts):
    best_sum, best_places = -1, None
    for places in itertools.combinations(range(1, len(roll)), parts - 1):
        ends = [0, *places, len(roll)]
        total = sum(greatest(roll[begin:end], table) for begin, end in zip(ends, ends[1:]))
        if total > best_sum:
            best_sum, best_places = total, list(places)
    return best_sum, best_places


def parting_reckoned(roll, table, parts):
    """For long rolls, part by part from the front; Python orders the places."""
    worths = [heights(roll[begin:], table) for begin in range(len(roll))]

    def worth(begin, end):
        return worths[begin][end - begin]

    rows = [{end: (-worth(0, end), []) for end in range(1, len(roll) + 1)}]
    for count in range(parts - 1):
        row = {}
        for end in range(count + 2, len(roll) + 1):
            row[end] = min(
                (rows[-1][begin][0] - worth(begin, end), rows[-1][begin][1] + [begin])
                for begin in range(count + 1, end)
            )
        rows.append(row)
    return -rows[-1][len(roll)][0], rows[-1][len(roll)][1]


class TestBestParting(unittest.TestCase):
    def told(self, roll, table, parts, worth, places):
        self.assertEqual(best_parting(roll, table, parts), (worth, places), (roll, table, parts))
        self.assertIs(type(best_parting(roll, table, parts)), tuple)

    def refused(self, roll, table, parts):
        with self.assertRaises(NoParting) as caught:
            best_parting(roll, table, parts)
        self.assertIs(type(caught.exception), NoParting)

    def test_ordinary(self):
        table = [("abc", 3, 9, 0), ("a", 1, 1, 0)]
        self.told([0] * 6, table, 1, 18, [])
        self.told([0] * 6, table, 2, 18, [3])
        self.told([0] * 6, table, 3, 12, [1, 2])

    def test_first_of_several(self):
        self.told([0] * 5, [("a", 1, 1, 0)], 3, 5, [1, 2])
        self.told([0] * 5, [("b", 2, 5, 0)], 2, 10, [1])
        self.told([0] * 5, [("b", 2, 5, 0)], 3, 10, [1, 3])
        self.told([9, 9, 9, 9], TABLE, 3, 0, [1, 2])
        self.told([0, 0, 9, 0, 0], [("b", 2, 5, 0)], 3, 10, [2, 3])
        self.told([0] * 5, [], 4, 0, [1, 2, 3])

    def test_one_part_and_as_many_as_cells(self):
        for roll, table in small_cases(4):
            self.told(roll, table, 1, greatest(roll, table), [])
            if roll:
                alone = sum(greatest([cell], table) for cell in roll)
                self.told(roll, table, len(roll), alone, list(range(1, len(roll))))

    def test_refused(self):
        for roll in ([0], [0, 0], [0] * 6, [0] * 60):
            for parts in (0, -1, -2, -len(roll), -WIDE, len(roll) + 1, len(roll) + 2, 203, TOP, WIDE):
                for table in ([], TABLE, FULL):
                    self.refused(roll, table, parts)

    def test_without_cells(self):
        for table in TABLES + (FULL,):
            self.told([], table, 1, 0, [])
            for parts in (0, 2, -1, 3, WIDE, -WIDE):
                self.refused([], table, parts)

    def test_against_trying(self):
        for roll, table in small_cases():
            for parts in range(1, len(roll) + 1):
                self.told(roll, table, parts, *parting_tried(roll, table, parts))

    def test_worths_alike_against_trying(self):
        table = [("a", 2, 4, 1), ("b", 3, 6, 0), ("c", 1, 1, 0)]
        for roll in small_rolls(7, (0, 1)):
            if len(roll) == 7:
                for parts in (2, 3, 4, 5):
                    self.told(roll, table, parts, *parting_tried(roll, table, parts))

    def test_sixty_cells(self):
        self.told([0] * 60, [("a", 1, TOP, 0)], 60, 60 * TOP, list(range(1, 60)))
        self.told([0] * 60, [("a", 1, TOP, 0)], 59, 60 * TOP, list(range(1, 59)))
        self.told([0] * 60, [("a", 30, TOP, 0)], 2, 2 * TOP, [30])
        self.told([0] * 60, [("a", 20, TOP, 0)], 4, 2 * TOP, [1, 2, 3])
        self.told([0] * 60, [("a", 29, TOP, 0)], 4, 2 * TOP, [1, 2, 31])
        self.told([0] * 60, [("a", 60, TOP, 0)], 2, 0, [1])
        for roll in (LONG[:60], LONG[60:120], mixed(4, 60, (0, 0, 0, 0, 1))):
            for parts in (1, 2, 3, 7, 20, 59):
                self.told(roll, FULL, parts, *parting_reckoned(roll, FULL, parts))

    def test_the_parts_have_the_worth(self):
        for parts in range(1, 61):
            worth, places = best_parting(LONG[:60], FULL, parts)
            rolls = parted(LONG[:60], places)
            self.assertEqual(len(rolls), parts)
            self.assertEqual(sum(best(roll, FULL)[0] for roll in rolls), worth)

    def test_taken_as_soon_as_it_is_good(self):
        roll = [0, 0]
        self.refused(roll, TABLE, 3)
        roll.append(0)
        self.told(roll, TABLE, 3, 6, [1, 2])


class TestWhoseLists(unittest.TestCase):
    def test_all(self):
        for roll in ([], [0], [0, 1, 3, 0, 0], LONG[:60]):
            for table in (TABLE, [], FULL):
                check_lists(self, free_places, roll, table)
                for place in (-1, 0, 1, 2):
                    check_lists(self, parting_loss, roll, table, place)
                    check_lists(self, best_parting, roll, table, place)
            for places in ([], [1], [2, 1], [1, 3], [0]):
                check_lists(self, parted, roll, places)


if __name__ == "__main__":
    unittest.main()
