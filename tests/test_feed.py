"""Promises 19 to 22, what promise 5 says of a Feed, and promises 2, 3 and 4 for it."""

import copy
import functools
import itertools
import unittest

from selvage.best import best, heights
from selvage.errors import Closed, TooLong
from selvage.feed import Feed
from trying import (
    FULL, LONG, TABLES, TOP, check_lists, greatest, mixed, small_rolls, spoil, told_in_words,
)

TABLE = [("b", 2, 5, 1), ("a", 1, 2, 0), ("abc", 3, 9, 4)]
WEIGHTS = (0, 1, 3)
QUESTIONS = ("closed", "cells", "worth", "cutting", "sure", "settled", "open_starts")


def fed(table, cells):
    feed = Feed(table)
    for weight in cells:
        feed.take(weight)
    return feed


def answers(feed):
    return [getattr(feed, question)() for question in QUESTIONS] + [feed.between(0), feed.between(2)]


@functools.lru_cache(maxsize=None)
def tops_tried(cells, kinds):
    return [greatest(cells[:end], kinds) for end in range(len(cells) + 1)]


@functools.lru_cache(maxsize=None)
def told_tried(cells, kinds):
    return told_in_words(list(cells), list(kinds))


def open_in_words(cells, table, tops):
    taken = len(cells)
    return [
        place for place in range(taken + 1)
        if place == taken or any(
            place + width > taken and sum(cells[place:]) <= allowed and tops[place] + worth > tops[taken]
            for name, width, worth, allowed in table
        )
    ]


def stops_in_words(told, place):
    stops = [place]
    while place > 0:
        place = place - 1 if told[place] == told[place - 1] else told[place][-1][0]
        stops.append(place)
    return stops


def settled_in_words(told, starts):
    shared = set(range(starts[-1] + 1))
    for start in starts:
        shared &= set(stops_in_words(told, start))
    return max(shared)


class FeedCase(unittest.TestCase):
    def right(self, feed, cells, table, tops, told):
        """All answers of a Feed that is not closed; told are the cuttings of the first cells."""
        starts = open_in_words(cells, table, tops)
        settled = settled_in_words(told, starts)
        self.assertIs(feed.closed(), False)
        self.assertEqual(feed.cells(), cells)
        self.assertEqual(feed.worth(), tops[-1])
        self.assertEqual(feed.cutting(), told[-1])
        self.assertEqual(feed.open_starts(), starts)
        self.assertEqual(feed.settled(), settled)
        self.assertEqual(feed.sure(), told[settled])

    def right_closed(self, feed, cells, worth, cutting):
        self.assertIs(feed.closed(), True)
        self.assertEqual(feed.cells(), cells)
        self.assertEqual(feed.worth(), worth)
        self.assertEqual(feed.cutting(), cutting)
        self.assertEqual(feed.sure(), cutting)
        self.assertEqual(feed.settled(), len(cells))
        self.assertEqual(feed.open_starts(), [len(cells)])

    def refused(self, kind, ask, *arguments):
        with self.assertRaises(kind) as caught:
            ask(*arguments)
        self.assertIs(type(caught.exception), kind)


class TestTaken(FeedCase):
    def test_ordinary(self):
        feed = Feed([("abc", 3, 9, 0), ("a", 1, 2, 0)])
        self.assertEqual(feed.take(0), [])
        self.assertEqual((feed.worth(), feed.cutting()), (2, [(0, "a")]))
        self.assertEqual((feed.open_starts(), feed.settled(), feed.sure()), ([0, 1], 0, []))
        self.assertEqual(feed.take(0), [])
        self.assertEqual(feed.open_starts(), [0, 1, 2])
        self.assertEqual(feed.take(0), [])
        self.assertEqual((feed.worth(), feed.cutting()), (9, [(0, "abc")]))
        self.assertEqual((feed.open_starts(), feed.settled()), ([1, 2, 3], 0))
        self.assertEqual(feed.take(1), [(0, "abc")])
        self.assertEqual((feed.open_starts(), feed.settled(), feed.sure()), ([4], 4, [(0, "abc")]))
        self.assertEqual(feed.take(0), [])
        self.assertEqual(feed.close(), [(4, "a")])
        self.right_closed(feed, [0, 0, 0, 1, 0], 11, [(0, "abc"), (4, "a")])

    def test_nothing_taken(self):
        for table in TABLES + (FULL,):
            feed = Feed(table)
            self.right(feed, [], table, [0], [[]])
            self.assertEqual(feed.close(), [])
            self.right_closed(feed, [], 0, [])

    def test_greater_not_as_great(self):
        # The piece from 0 on would only be worth as much as what is there: no open start.
        self.assertEqual(fed([("b", 2, 2, 0), ("a", 1, 2, 0)], [0]).open_starts(), [1])
        self.assertEqual(fed([("b", 2, 3, 0), ("a", 1, 2, 0)], [0]).open_starts(), [0, 1])

    def test_ends_behind_the_cells_taken(self):
        self.assertEqual(fed([("b", 2, 9, 3)], [0, 0]).open_starts(), [2])
        self.assertEqual(fed([("b", 2, 9, 3)], [9, 0, 0]).open_starts(), [3])
        self.assertEqual(fed([("b", 3, 9, 3)], [0, 0]).open_starts(), [0, 1, 2])

    def test_just_allowed(self):
        self.assertEqual(fed([("b", 3, 9, 3)], [1, 2]).open_starts(), [0, 1, 2])
        self.assertEqual(fed([("b", 3, 9, 2)], [1, 2]).open_starts(), [1, 2])
        self.assertEqual(fed([("b", 3, 9, 1)], [1, 2]).open_starts(), [2])

    def test_word_by_word(self):
        for table in TABLES:
            for roll in small_rolls(5, WEIGHTS):
                if len(roll) == 5:
                    self.walk_tried(table, roll)

    def test_word_by_word_longer(self):
        for table in TABLES:
            for seed in range(5):
                self.walk_tried(table, mixed(seed, 9, (0, 0, 1, 0, 3)))

    def walk_tried(self, table, roll):
        feed, kinds, come, settled = Feed(table), tuple(table), [], 0
        for length in range(len(roll) + 1):
            cells = roll[:length]
            if length:
                come.extend(feed.take(roll[length - 1]))
            told = [told_tried(tuple(cells[:end]), kinds) for end in range(length + 1)]
            self.right(feed, cells, table, tops_tried(tuple(cells), kinds), told)
            self.assertEqual(come, feed.sure())
            self.assertGreaterEqual(feed.settled(), settled)
            settled = feed.settled()
        come.extend(feed.close())
        self.assertEqual(come, feed.sure())
        self.right_closed(feed, roll, greatest(roll, table), told_tried(tuple(roll), kinds))

    def test_a_hundred_cells(self):
        tables = (FULL, TABLE, FULL[::-1], [("a", 99, 5, 3), ("b", 1, 1, 0)])
        rolls = (LONG[:100], LONG[100:], [0] * 100, mixed(2, 100, (0, 0, 0, 0, 0, 1)))
        for table, roll in itertools.product(tables, rolls):
            told = [best(roll[:end], table)[1] for end in range(101)]
            tops = heights(roll, table)
            feed, come, settled = Feed(table), [], 0
            for length in range(1, 101):
                come.extend(feed.take(roll[length - 1]))
                if length % 9 == 1 or length > 95:
                    self.right(feed, roll[:length], table, tops[:length + 1], told[:length + 1])
                self.assertEqual(come, feed.sure())
                self.assertGreaterEqual(feed.settled(), settled)
                settled = feed.settled()
            come.extend(feed.close())
            self.assertEqual(come, feed.sure())
            self.right_closed(feed, roll, tops[-1], told[-1])

    def test_closed_at_each_length(self):
        for table in TABLES:
            for length in range(8):
                roll = mixed(length, length, (0, 0, 1, 0, 3))
                feed = fed(table, roll)
                before = feed.sure()
                worth, cutting = best(roll, table)
                self.assertEqual(feed.close(), cutting[len(before):])
                self.right_closed(feed, roll, worth, cutting)


class TestWhateverComes(FeedCase):
    def holds(self, feed, whole, table):
        sure, settled = feed.sure(), feed.settled()
        cutting = best(whole, table)[1]
        self.assertEqual(cutting[:len(sure)], sure)
        for place, name in cutting[len(sure):]:
            self.assertGreaterEqual(place, settled)

    def test_small_rolls(self):
        for table in TABLES:
            for cells in small_rolls(4, WEIGHTS):
                feed = fed(table, cells)
                for rest in small_rolls(3, (0, 2)):
                    self.holds(feed, cells + rest, table)

    def test_wide_pieces(self):
        table = [("w", 7, 30, 2), ("u", 4, 16, 1), ("v", 3, 12, 0), ("t", 5, 20, 3)]
        for seed in range(12):
            cells = mixed(seed, 14, (0, 0, 0, 1))
            feed = fed(table, cells)
            for rest in small_rolls(7, (0, 1)):
                self.holds(feed, cells + rest, table)

    def test_long_rolls(self):
        for length in range(0, 101, 5):
            feed = fed(FULL, LONG[:length])
            for end in range(length, 201, 15):
                self.holds(feed, LONG[:end], FULL)
                self.holds(feed, LONG[:length] + [0] * (end - length), FULL)


class TestRefused(FeedCase):
    def test_closed(self):
        for table in TABLES:
            for cells in ([], [0], [0, 1, 0, 0]):
                feed = fed(table, cells)
                feed.close()
                kept = copy.deepcopy(answers(feed))
                for time in range(2):
                    for weight in (0, 1, TOP):
                        self.refused(Closed, feed.take, weight)
                    self.refused(Closed, feed.close)
                    self.assertEqual(answers(feed), kept)

    def test_two_hundred_cells(self):
        feed = Feed([])
        for length in range(200):
            self.assertEqual(feed.take(length % 3), [])
            self.assertEqual((feed.settled(), feed.open_starts()), (length + 1, [length + 1]))
        for weight in (0, 1, TOP):
            self.refused(TooLong, feed.take, weight)
            self.assertEqual(len(feed.cells()), 200)
        self.assertEqual(feed.cells(), [length % 3 for length in range(200)])
        self.assertEqual(answers(feed)[:-2], [False, feed.cells(), 0, [], [], 200, [200]])
        self.assertEqual(feed.between(0), (0, 0))
        self.assertEqual(feed.close(), [])
        self.refused(Closed, feed.take, 0)
        self.refused(Closed, feed.close)
        self.assertEqual(feed.cells(), [length % 3 for length in range(200)])
        self.assertEqual(answers(feed)[:-2], [True, feed.cells(), 0, [], [], 200, [200]])

    def test_the_last_cell_is_taken(self):
        feed = fed([], [5] * 199)
        self.assertEqual(feed.take(TOP), [])
        self.refused(TooLong, feed.take, 0)
        self.assertEqual(feed.cells(), [5] * 199 + [TOP])

    def test_greatest_weight(self):
        feed = fed(TABLE, [0, TOP, 0])
        self.assertEqual(feed.cells(), [0, TOP, 0])
        self.assertEqual(feed.cutting(), [(0, "a"), (2, "a")])


class TestBetween(FeedCase):
    def test_ordinary(self):
        feed = fed(TABLE, [0, 1])
        self.assertEqual([feed.between(rest) for rest in range(4)], [(5, 5), (5, 9), (5, 11), (5, 14)])
        self.assertIs(type(feed.between(1)), tuple)

    def test_against_trying(self):
        for table in TABLES:
            for cells in small_rolls(3, WEIGHTS):
                feed = fed(table, cells)
                for rest in range(4):
                    worths = [
                        greatest(cells + list(more), table)
                        for more in itertools.product((0, 1, TOP), repeat=rest)
                    ]
                    self.assertEqual(feed.between(rest), (min(worths), max(worths)))

    def test_heaviest_allowed(self):
        feed = fed([("a", 1, 7, TOP - 1)], [0])
        self.assertEqual([feed.between(rest) for rest in (0, 1, 2)], [(7, 7), (7, 14), (7, 21)])

    def test_two_hundred_cells(self):
        for table in (FULL, TABLE, []):
            for length in (0, 1, 40, 100):
                cells = LONG[:length]
                feed = fed(table, cells)
                for rest in (0, 1, 5, 99, 200 - length):
                    least = best(cells + [TOP] * rest, table)[0]
                    most = best(cells + [0] * rest, table)[0]
                    self.assertEqual(feed.between(rest), (least, most))
        feed = fed([], [1] * 200)
        self.assertEqual(feed.between(0), (0, 0))

    def test_behind_close(self):
        for table in TABLES:
            for cells in ([], [0], [0, 1, 0, 0], [0, 0, 3, 0, 1]):
                feed = fed(table, cells)
                rests = (0, 1, 2, 3, 200 - len(cells))
                kept = [feed.between(rest) for rest in rests]
                feed.close()
                self.assertEqual([feed.between(rest) for rest in rests], kept)


class TestWhoseLists(FeedCase):
    def test_the_table_handed_in(self):
        roll = mixed(1, 12, (0, 0, 1, 0, 3))
        for place in range(len(roll) + 1):
            table = list(TABLE)
            feed = Feed(table)
            self.assertEqual(table, TABLE)
            for weight in roll[:place]:
                feed.take(weight)
            spoil(table)
            table.clear()
            table.append(("z", 1, TOP, TOP - 1))
            for weight in roll[place:]:
                feed.take(weight)
            self.assertEqual(answers(feed), answers(fed(TABLE, roll)))

    def test_told_lists(self):
        for cells in ([], [0], [0, 1, 3, 0, 0], mixed(6, 12, (0, 0, 1, 0, 9))):
            for shut in (False, True):
                feed = fed(TABLE, cells)
                if shut:
                    spoil(feed.close())
                kept = copy.deepcopy(answers(feed))
                for time in range(2):
                    spoil(answers(feed))
                    self.assertEqual(answers(feed), kept)

    def test_what_take_and_close_tell(self):
        roll = mixed(6, 12, (0, 0, 1, 0, 9))
        feed, other = Feed(TABLE), Feed(TABLE)
        for weight in roll:
            told = feed.take(weight)
            self.assertEqual(told, other.take(weight))
            spoil(told)
            self.assertEqual(answers(feed), answers(other))
        told = feed.close()
        self.assertEqual(told, other.close())
        spoil(told)
        self.assertEqual(answers(feed), answers(other))

    def test_told_lists_stay(self):
        feed = fed(TABLE, [0, 1, 3, 0])
        told = answers(feed)
        kept = copy.deepcopy(told)
        for weight in (0, 0, 9, 0):
            feed.take(weight)
        feed.close()
        self.assertEqual(told, kept)

    def test_questions_change_nothing(self):
        roll = mixed(7, 15, (0, 0, 1, 0, 3))
        asked, quiet = Feed(TABLE), Feed(TABLE)
        for weight in roll:
            answers(asked)
            self.assertEqual(asked.take(weight), quiet.take(weight))
        answers(asked)
        self.assertEqual(asked.close(), quiet.close())
        self.assertEqual(answers(asked), answers(quiet))
        self.assertEqual(answers(asked), answers(asked))

    def test_two_feeds_of_one_table(self):
        table = list(TABLE)
        one, other = Feed(table), Feed(table)
        one.take(0)
        self.assertEqual(answers(other), answers(Feed(TABLE)))
        other.take(9)
        other.take(0)
        one.close()
        self.assertEqual(answers(other), answers(fed(TABLE, [9, 0])))
        other.take(0)
        closed = fed(TABLE, [0])
        closed.close()
        self.assertEqual(answers(one), answers(closed))
        self.assertEqual(table, TABLE)

    def test_made_and_fed(self):
        for table in (TABLE, [], FULL):
            check_lists(self, lambda kinds: fed(kinds, [0, 0, 1]).cutting(), table)
            check_lists(self, lambda kinds: answers(fed(kinds, LONG[:20])), table)


if __name__ == "__main__":
    unittest.main()
