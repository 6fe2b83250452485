"""Promises 7 and 8, and promises 2, 3 and 4 for the functions of rolls."""

import copy
import itertools
import unittest

from selvage.errors import CutError, NoPlace, NotARoll, TooLong
from selvage.rolls import changed, checked_roll, joined, spoilt, turned

TOP = 10 ** 18
WIDE = 10 ** 60 - 1
WRONG_WEIGHTS = [-1, -2, TOP + 1, -TOP, WIDE, -WIDE]
ROLLS = ([], [0], [5], [TOP], [0, 3, 1], [TOP, 0, TOP, 7], list(range(20)), [0] * 200, [TOP] * 200)


class TestCheckedRoll(unittest.TestCase):
    def good(self, roll):
        told = checked_roll(roll)
        self.assertEqual(told, roll)
        self.assertIsNot(told, roll)
        self.assertIs(type(told), list)

    def wrong(self, roll, place):
        with self.assertRaises(NotARoll) as caught:
            checked_roll(roll)
        self.assertIs(type(caught.exception), NotARoll)
        self.assertEqual(caught.exception.at, place)
        self.assertIs(type(caught.exception.at), int)

    def test_good_rolls(self):
        for roll in ROLLS:
            self.good(roll)

    def test_good_edges(self):
        for weight in (0, 1, TOP - 1, TOP):
            self.good([weight])
            self.good([3] * 199 + [weight])

    def test_wrong_weights(self):
        for weight in WRONG_WEIGHTS:
            self.wrong([weight], 0)
            self.wrong([0, weight, 0], 1)
            self.wrong([0] * 199 + [weight], 199)

    def test_two_hundred_cells_and_more(self):
        for length in (199, 200):
            self.good([1] * length)
        for length in (201, 202, 203):
            self.wrong([1] * length, 200)

    def test_too_long_with_an_earlier_wrong_cell(self):
        for place in (0, 1, 100, 199):
            roll = [1] * 203
            roll[place] = -1
            self.wrong(roll, place)

    def test_wrong_only_behind_the_last_place(self):
        self.wrong([1] * 200 + [-1], 200)
        self.wrong([1] * 201 + [-1, TOP + 1], 200)

    def test_the_first_of_several(self):
        for places in itertools.combinations(range(6), 2):
            for one, other in itertools.product(WRONG_WEIGHTS, repeat=2):
                roll = [4] * 6
                roll[places[0]] = one
                roll[places[1]] = other
                self.wrong(roll, places[0])
        self.wrong([-1] * 203, 0)

    def test_taken_as_soon_as_it_is_good(self):
        roll = [1] * 200 + [2]
        self.wrong(roll, 200)
        roll.pop()
        self.good(roll)


class TestSpoilt(unittest.TestCase):
    def refused(self, roll, begin, end):
        with self.assertRaises(NoPlace) as caught:
            spoilt(roll, begin, end)
        self.assertIs(type(caught.exception), NoPlace)

    def test_all_places(self):
        roll = [3, 0, 10, 200, 4000, 7]
        for begin, end in itertools.product(range(-8, 16), repeat=2):
            if begin in range(0, 7) and end in range(begin, 7):
                told = sum(roll[place] for place in range(begin, end))
                self.assertEqual(spoilt(roll, begin, end), told, (begin, end))
            else:
                self.refused(roll, begin, end)

    def test_roll_without_cells(self):
        self.assertEqual(spoilt([], 0, 0), 0)
        for begin, end in ((0, 1), (1, 1), (-1, 0), (-1, -1), (1, 0), (0, -1)):
            self.refused([], begin, end)

    def test_begin_and_end_alike(self):
        roll = [TOP] * 200
        for place in (0, 1, 100, 199, 200):
            self.assertEqual(spoilt(roll, place, place), 0)
        for place in (-200, -1, 201, WIDE, -WIDE):
            self.refused(roll, place, place)

    def test_long_and_heavy(self):
        roll = [TOP] * 200
        self.assertEqual(spoilt(roll, 0, 200), 200 * TOP)
        self.assertEqual(spoilt(roll, 0, 1), TOP)
        self.assertEqual(spoilt(roll, 199, 200), TOP)
        for begin, end in ((-1, 200), (0, 201), (-1, 201), (200, 199), (200, 0)):
            self.refused(roll, begin, end)

    def test_places_of_sixty_figures(self):
        for begin, end in itertools.product((-WIDE, 0, 2, WIDE), repeat=2):
            if abs(begin) == WIDE or abs(end) == WIDE:
                self.refused([1, 2, 3], begin, end)

    def test_somewhat_longer_than_a_roll(self):
        self.assertEqual(spoilt([1] * 203, 0, 203), 203)


class TestChanged(unittest.TestCase):
    def test_each_place(self):
        roll = [3, 0, 10, 200]
        for place in range(4):
            for weight in (0, 1, roll[place], TOP):
                told = changed(roll, place, weight)
                self.assertEqual(len(told), 4)
                for cell in range(4):
                    self.assertEqual(told[cell], weight if cell == place else roll[cell])

    def test_first_and_last_of_two_hundred(self):
        self.assertEqual(changed([1] * 200, 0, 9), [9] + [1] * 199)
        self.assertEqual(changed([1] * 200, 199, 9), [1] * 199 + [9])

    def test_one_cell(self):
        self.assertEqual(changed([TOP], 0, 0), [0])

    def test_no_such_cell(self):
        for roll in ROLLS:
            for place in (-WIDE, -200, -len(roll) - 1, -2, -1, len(roll), len(roll) + 1, 203, TOP, WIDE):
                with self.assertRaises(NoPlace) as caught:
                    changed(roll, place, 1)
                self.assertIs(type(caught.exception), NoPlace)

    def test_last_cell_is_not_at_minus_one(self):
        with self.assertRaises(NoPlace):
            changed([1, 2, 3], -3, 0)
        with self.assertRaises(NoPlace):
            changed([], 0, 0)


class TestTurned(unittest.TestCase):
    def test_opposite_order(self):
        self.assertEqual(turned([3, 0, 10, 200]), [200, 10, 0, 3])
        self.assertEqual(turned([1, 2]), [2, 1])
        self.assertEqual(turned(list(range(200))), list(range(199, -1, -1)))

    def test_few_cells(self):
        self.assertEqual(turned([]), [])
        self.assertEqual(turned([TOP]), [TOP])

    def test_turned_twice(self):
        for roll in ROLLS:
            self.assertEqual(turned(turned(roll)), roll)
            self.assertIs(type(turned(roll)), list)


class TestJoined(unittest.TestCase):
    def refused(self, rolls):
        with self.assertRaises(TooLong) as caught:
            joined(rolls)
        self.assertIs(type(caught.exception), TooLong)

    def test_one_behind_the_other(self):
        self.assertEqual(joined([[1, 2], [3], [4, 5]]), [1, 2, 3, 4, 5])
        self.assertEqual(joined([[4, 5], [3], [1, 2]]), [4, 5, 3, 1, 2])
        self.assertEqual(joined([[1, 0, TOP]]), [1, 0, TOP])

    def test_same_roll_twice(self):
        roll = [1, 2]
        self.assertEqual(joined([roll, roll]), [1, 2, 1, 2])

    def test_no_rolls(self):
        self.assertEqual(joined([]), [])

    def test_rolls_without_cells(self):
        self.assertEqual(joined([[]]), [])
        self.assertEqual(joined([[]] * 203), [])
        self.assertEqual(joined([[], [1], [], [], [2, 3], []]), [1, 2, 3])

    def test_just_two_hundred(self):
        self.assertEqual(joined([[1] * 200]), [1] * 200)
        self.assertEqual(joined([[1] * 199, [2]]), [1] * 199 + [2])
        self.assertEqual(joined([[cell] for cell in range(200)]), list(range(200)))
        self.assertEqual(joined([[], [1] * 200, []]), [1] * 200)

    def test_more_than_two_hundred(self):
        self.refused([[1] * 200, [2]])
        self.refused([[1], [2] * 200])
        self.refused([[1] * 100, [], [2] * 101])
        self.refused([[cell] for cell in range(201)])
        self.refused([[1] * 200] * 203)

    def test_taken_as_soon_as_it_is_good(self):
        rolls = [[1] * 200, [2]]
        self.refused(rolls)
        rolls[0].pop()
        self.assertEqual(joined(rolls), [1] * 199 + [2])


def asked(ask, argument):
    try:
        return ask(argument)
    except CutError as refusal:
        return type(refusal)


ASKS = (
    checked_roll,
    turned,
    lambda roll: changed(roll, 0, 9),
    lambda roll: changed(roll, 0, roll[0] if roll else 0),
    lambda roll: joined([roll]),
    lambda roll: joined([[], roll]),
    lambda roll: joined([roll, []]),
)


class TestWhoseLists(unittest.TestCase):
    def test_what_is_handed_in_stays(self):
        asks = ASKS + (lambda roll: spoilt(roll, 0, len(roll)), lambda roll: spoilt(roll, 1, 0))
        for ask in asks:
            for roll in ROLLS + ([-1], [1] * 203):
                here = list(roll)
                first = asked(ask, here)
                self.assertEqual(here, roll)
                self.assertEqual(asked(ask, here), first)

    def test_rolls_handed_to_joined_stay(self):
        for rolls in ([], [[]], [[1, 2], [], [3]], [[1] * 200, [2]]):
            here = copy.deepcopy(rolls)
            asked(joined, here)
            self.assertEqual(here, rolls)

    def test_told_lists_are_the_askers_own(self):
        for ask in ASKS:
            for roll in ([], [5], [3, 0, 4]):
                here = list(roll)
                first, second = asked(ask, here), asked(ask, here)
                if first is NoPlace:
                    continue
                kept = list(first)
                self.assertEqual(second, kept)
                self.assertIsNot(first, here)
                self.assertIsNot(first, second)
                first.append(77)
                second.clear()
                self.assertEqual(here, roll)
                self.assertEqual(asked(ask, here), kept)

    def test_what_is_done_later_to_the_roll(self):
        for ask in ASKS:
            roll = [3, 0, 4]
            told = ask(roll)
            kept = list(told)
            roll[1] = 8
            roll.append(9)
            self.assertEqual(told, kept)

    def test_what_is_done_later_to_the_rolls(self):
        rolls = [[1, 2], [3]]
        told = joined(rolls)
        rolls[0].append(9)
        rolls.append([4])
        self.assertEqual(told, [1, 2, 3])
        self.assertEqual(joined(rolls), [1, 2, 9, 3, 4])


if __name__ == "__main__":
    unittest.main()
