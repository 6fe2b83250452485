"""Promise 15, and promises 2, 3 and 4 for the functions of standing."""

import unittest

from selvage.best import best
from selvage.errors import NoFit
from selvage.places import all_pieces
from selvage.rolls import turned
from selvage.standing import loss, mays, musts, runner_up
from trying import (
    FULL, LONG, TABLES, TOP, WIDE, best_tried, check_lists, cuttings, greatest, mixed, small_cases, worth_of,
)

TABLE = [("b", 2, 5, 1), ("a", 1, 2, 0), ("abc", 3, 9, 4)]
LONG_ROLLS = ([0] * 200, [1] * 200, [TOP] * 200, LONG, mixed(3, 200, (0, 0, 1, 0, 0, 0, 9)))


def greatest_without(roll, table, piece):
    """The greatest worth of a cutting that has not this piece."""
    tops = [0]
    for end in range(1, len(roll) + 1):
        tops.append(tops[-1])
        for name, width, worth, allowed in table:
            begin = end - width
            if begin >= 0 and (begin, name) != piece and sum(roll[begin:end]) <= allowed:
                tops[end] = max(tops[end], tops[begin] + worth)
    return tops[-1]


def all_worths(roll, table):
    """The worths that cuttings have, each a bit of one number."""
    worths = [1]
    for end in range(1, len(roll) + 1):
        worths.append(worths[-1])
        for name, width, worth, allowed in table:
            if width <= end and sum(roll[end - width:end]) <= allowed:
                worths[end] |= worths[end - width] << worth
    return worths[-1]


class TestMaysAndMusts(unittest.TestCase):
    def told(self, roll, table, may, must):
        self.assertEqual(mays(roll, table), may, (roll, table))
        self.assertEqual(musts(roll, table), must, (roll, table))

    def test_ordinary(self):
        self.told([0, 0, 0], [("a", 2, 5, 0)], [(0, "a"), (1, "a")], [])
        self.told([0, 0], [("a", 2, 5, 0)], [(0, "a")], [(0, "a")])
        self.told([0, 0, 0, 9, 0], [("a", 2, 5, 0), ("b", 1, 1, 0)], [(0, "a"), (0, "b"), (1, "a"), (2, "b"), (4, "b")],
                  [(4, "b")])
        self.told([0, 9, 0], [("a", 1, 2, 0), ("b", 1, 2, 0)], [(0, "a"), (0, "b"), (2, "a"), (2, "b")], [])
        self.told([0, 9, 0], [("b", 1, 2, 0), ("a", 1, 2, 0)], [(0, "b"), (0, "a"), (2, "b"), (2, "a")], [])

    def test_against_trying(self):
        for roll, table in small_cases():
            right = best_tried(roll, table)
            pieces = all_pieces(roll, table)
            may = [piece for piece in pieces if any(piece in cutting for cutting in right)]
            must = [piece for piece in pieces if all(piece in cutting for cutting in right)]
            self.told(roll, table, may, must)

    def test_nothing_to_cut(self):
        for table in TABLES + (FULL,):
            self.told([], table, [], [])
            self.told([TOP] * 5, table, [], [])
        for roll in ([0], [TOP, 0], [0] * 200):
            self.told(roll, [], [], [])

    def test_two_hundred_cells(self):
        self.told([0] * 200, [("a", 1, TOP, 0)], *[[(place, "a") for place in range(200)]] * 2)
        self.told([0] * 200, [("a", 199, 7, 0)], [(0, "a"), (1, "a")], [])
        self.told([0] * 200, [("a", 200, 7, 0)], [(0, "a")], [(0, "a")])
        alike = [(name, 1, 5, 0) for name in "hbgcfade"]
        self.told([0] * 200, alike, [(place, name) for place in range(200) for name in "hbgcfade"], [])
        self.told([0] * 199 + [1], alike + [("k", 1, 3, 1)],
                  [(place, name) for place in range(199) for name in "hbgcfade"] + [(199, "k")], [(199, "k")])

    def test_long_rolls(self):
        for roll in LONG_ROLLS:
            worth = best(roll, FULL)[0]
            width = {kind[0]: kind[1] for kind in FULL}
            value = {kind[0]: kind[2] for kind in FULL}
            ahead = [best(roll[:place], FULL)[0] for place in range(201)]
            behind = [best(roll[place:], FULL)[0] for place in range(201)]
            may = [
                (place, name) for place, name in all_pieces(roll, FULL)
                if ahead[place] + value[name] + behind[place + width[name]] == worth
            ]
            must = [piece for piece in may if greatest_without(roll, FULL, piece) < worth]
            self.told(roll, FULL, may, must)

    def test_turned_about(self):
        widths = {kind[0]: kind[1] for kind in FULL}
        for ask in (mays, musts):
            back = [(200 - place - widths[name], name) for place, name in ask(turned(LONG), FULL)]
            self.assertEqual(sorted(back), sorted(ask(LONG, FULL)))


class TestLoss(unittest.TestCase):
    def refused(self, roll, table, piece):
        with self.assertRaises(NoFit) as caught:
            loss(roll, table, piece)
        self.assertIs(type(caught.exception), NoFit)

    def test_ordinary(self):
        roll = [0, 1, 3, 0]
        self.assertEqual(best(roll, TABLE)[0], 11)
        self.assertEqual(loss(roll, TABLE, (0, "abc")), 0)
        self.assertEqual(loss(roll, TABLE, (1, "abc")), 0)
        self.assertEqual(loss(roll, TABLE, (0, "b")), 4)
        self.assertEqual(loss(roll, TABLE, (0, "a")), 0)
        self.assertEqual(loss(roll, TABLE, (3, "a")), 0)

    def test_against_trying(self):
        for roll, table in small_cases():
            top, may = greatest(roll, table), mays(roll, table)
            for piece in all_pieces(roll, table):
                told = loss(roll, table, piece)
                right = top - max(worth_of(table, some) for some in cuttings(roll, table) if piece in some)
                self.assertEqual(told, right)
                self.assertIs(type(told), int)
                self.assertEqual(told == 0, piece in may)

    def test_all_others_are_refused(self):
        for roll, table in small_cases(2):
            fitting = all_pieces(roll, table)
            for place in list(range(-5, 12)) + [-WIDE, -TOP, 200, 203, TOP, WIDE]:
                for name in [kind[0] for kind in table] + ["", "q", "A"]:
                    if (place, name) not in fitting:
                        self.refused(roll, table, (place, name))

    def test_places_and_names(self):
        roll = [0, 1, 3, 0]
        for place in (-WIDE, -TOP, -4, -1, 4, 5, 200, TOP, WIDE):
            for name in ("a", "b", "abc"):
                self.refused(roll, TABLE, (place, name))
        for name in ("", "A", "ABC", " a", "a ", "ab", "abcd", "c", "~", "a" * 203):
            for place in (-WIDE, -1, 0, 3, WIDE):
                self.refused(roll, TABLE, (place, name))
        self.refused(roll, TABLE, (1, "a"))
        self.refused(roll, TABLE, (1, "b"))
        self.refused(roll, TABLE, (2, "abc"))
        self.refused([], TABLE, (0, "a"))
        self.refused(roll, [], (0, "a"))

    def test_two_hundred_cells(self):
        table = [("a", 1, TOP, 0), ("b", 100, 3, 0), ("c", 200, 1, 0)]
        self.assertEqual(loss([0] * 200, table, (199, "a")), 0)
        for place in (0, 1, 50, 100):
            self.assertEqual(loss([0] * 200, table, (place, "b")), 100 * TOP - 3)
        self.refused([0] * 200, table, (101, "b"))
        self.assertEqual(loss([0] * 200, table, (0, "c")), 200 * TOP - 1)
        self.refused([0] * 200, table, (200, "a"))
        may = mays(LONG, FULL)
        for piece in all_pieces(LONG, FULL)[::7]:
            self.assertEqual(loss(LONG, FULL, piece) == 0, piece in may)

    def test_taken_as_soon_as_it_is_good(self):
        roll = [0, 2]
        self.refused(roll, TABLE, (0, "b"))
        roll[1] = 1
        self.assertEqual(loss(roll, TABLE, (0, "b")), 0)


class TestRunnerUp(unittest.TestCase):
    def told(self, roll, table, worth):
        self.assertEqual(runner_up(roll, table), worth, (roll, table))
        if worth is not None:
            self.assertIs(type(runner_up(roll, table)), int)

    def test_ordinary(self):
        self.told([0, 1, 3, 0], TABLE, 9)
        self.told([0], TABLE, 0)
        self.told([0, 0], [("a", 1, 2, 0), ("b", 2, 5, 0)], 4)
        self.told([0, 0, 0], [("a", 2, 5, 0)], 0)

    def test_none_where_no_piece_fits(self):
        for table in TABLES + (FULL,):
            self.told([], table, None)
            self.told([TOP] * 4, table, None)
        for roll in ([0], [0] * 200):
            self.told(roll, [], None)
        self.told([1], TABLE, None)
        self.told([0, 0], [("a", 3, 1, 9)], None)

    def test_against_trying(self):
        for roll, table in small_cases():
            worths = sorted({worth_of(table, cutting) for cutting in cuttings(roll, table)})
            self.told(roll, table, worths[-2] if len(worths) > 1 else None)

    def test_two_hundred_cells(self):
        self.told([0] * 200, [("a", 1, TOP, 0)], 199 * TOP)
        self.told([0] * 200, [("a", 100, 7, 0), ("b", 200, 13, 0)], 13)
        self.told([0] * 200, [("a", 100, 7, 0), ("b", 200, 14, 0)], 7)
        self.told([TOP] * 200, FULL, None)
        for roll in LONG_ROLLS:
            worths = all_worths(roll, FULL)
            top = worths.bit_length() - 1
            self.assertEqual(top, best(roll, FULL)[0])
            rest = worths - (1 << top)
            self.told(roll, FULL, rest.bit_length() - 1 if rest else None)

    def test_turned_about(self):
        for roll, table in list(small_cases(3)) + [(LONG, FULL)]:
            self.assertEqual(runner_up(turned(roll), table), runner_up(roll, table))


class TestWhoseLists(unittest.TestCase):
    def test_all(self):
        for roll in ([], [0], [0, 1, 3, 0, 0], LONG):
            for table in (TABLE, [], FULL):
                for ask in (mays, musts, runner_up):
                    check_lists(self, ask, roll, table)
                check_lists(self, loss, roll, table, (0, "a"))
                check_lists(self, loss, roll, table, (3, "h"))


if __name__ == "__main__":
    unittest.main()
