"""Promise 9, and promises 2, 3 and 4 for the functions of places."""

import itertools
import unittest

from selvage.errors import NoKind
from selvage.places import all_pieces, end_of, fits

TOP = 10 ** 18
WIDE = 10 ** 60 - 1
TABLE = [("b", 2, 5, 1), ("a", 1, 2, 0), ("abc", 3, 9, 4)]


def fits_by_cells(roll, kind, place):
    cells = range(place, place + kind[1])
    for cell in cells:
        if cell not in range(len(roll)):
            return False
    return sum(roll[cell] for cell in cells) <= kind[3]


class TestFits(unittest.TestCase):
    def yes(self, roll, kind, place):
        self.assertIs(fits(roll, kind, place), True, (roll, kind, place))

    def no(self, roll, kind, place):
        self.assertIs(fits(roll, kind, place), False, (roll, kind, place))

    def test_just_what_is_allowed_and_one_above(self):
        for allowed in (0, 1, 7, 10 ** 9, TOP - 1):
            kind = ("a", 3, 1, allowed)
            self.yes([9, 0, allowed, 0, 9], kind, 1)
            self.no([9, 0, allowed + 1, 0, 9], kind, 1)
            self.no([9, 1, allowed, 0, 9], kind, 1)
            self.no([9, 0, allowed, 1, 9], kind, 1)
        self.yes([1, 2, 3], ("a", 3, 1, 6), 0)
        self.no([1, 2, 4], ("a", 3, 1, 6), 0)
        self.no([1, 3, 3], ("a", 3, 1, 6), 0)
        self.no([2, 2, 3], ("a", 3, 1, 6), 0)

    def test_cells_outside_do_not_count(self):
        self.yes([TOP, 0, 0, TOP], ("a", 2, 1, 0), 1)
        self.no([TOP, 0, 0, TOP], ("a", 2, 1, 0), 0)
        self.no([TOP, 0, 0, TOP], ("a", 2, 1, 0), 2)

    def test_greatest_weight_fits_nowhere(self):
        self.no([TOP], ("a", 1, 1, TOP - 1), 0)
        self.yes([TOP - 1], ("a", 1, 1, TOP - 1), 0)

    def test_ends_of_the_roll(self):
        kind = ("a", 3, 1, 0)
        for place in range(-5, 11):
            if place in range(0, 6):
                self.yes([0] * 8, kind, place)
            else:
                self.no([0] * 8, kind, place)

    def test_places_far_off(self):
        for width in (1, 3, 200):
            for place in (-WIDE, -TOP, -203, -width, -1, 8, 9, 203, TOP, WIDE):
                self.no([0] * 8, ("a", width, 1, TOP - 1), place)

    def test_wider_than_the_roll(self):
        for place in range(-9, 9):
            self.no([0] * 7, ("a", 8, 1, TOP - 1), place)
        self.yes([0] * 8, ("a", 8, 1, 0), 0)

    def test_roll_without_cells(self):
        for width in (1, 2, 200):
            for place in (-200, -1, 0, 1):
                self.no([], ("a", width, 1, TOP - 1), place)

    def test_two_hundred_cells(self):
        kind = ("a", 200, 1, 200)
        self.yes([1] * 200, kind, 0)
        self.no([1] * 199 + [2], kind, 0)
        self.no([1] * 199, kind, 0)
        self.no([0] * 200, kind, 1)
        self.yes([0] * 200, ("a", 1, 1, 0), 199)
        self.no([0] * 200, ("a", 1, 1, 0), 200)

    def test_many(self):
        for length in range(5):
            for cells in itertools.product((0, 1, 3), repeat=length):
                for width, allowed in itertools.product((1, 2, 3, 4), (0, 1, 3, 4)):
                    kind = ("a", width, 1, allowed)
                    for place in range(-5, 7):
                        self.assertIs(fits(list(cells), kind, place), fits_by_cells(list(cells), kind, place))


class TestAllPieces(unittest.TestCase):
    def test_by_places_then_as_in_the_table(self):
        self.assertEqual(
            all_pieces([0, 0, 0], TABLE),
            [(0, "b"), (0, "a"), (0, "abc"), (1, "b"), (1, "a"), (2, "a")],
        )
        self.assertEqual(
            all_pieces([0, 0, 0], TABLE[::-1]),
            [(0, "abc"), (0, "a"), (0, "b"), (1, "a"), (1, "b"), (2, "a")],
        )

    def test_flaws(self):
        self.assertEqual(
            all_pieces([0, 1, 3, 0], TABLE),
            [(0, "b"), (0, "a"), (0, "abc"), (1, "abc"), (3, "a")],
        )

    def test_none(self):
        self.assertEqual(all_pieces([], TABLE), [])
        self.assertEqual(all_pieces([0, 0], []), [])
        self.assertEqual(all_pieces([], []), [])
        self.assertEqual(all_pieces([TOP] * 200, TABLE), [])
        self.assertEqual(all_pieces([0, 0], [("a", 3, 1, TOP - 1)]), [])

    def test_many(self):
        table = [("z", 2, 1, 3), ("a", 1, 1, 1), ("m", 3, 9, 4), ("b", 2, 1, 0)]
        for length in range(6):
            for cells in itertools.product((0, 1, 3), repeat=length):
                roll = list(cells)
                told = [
                    (place, kind[0])
                    for place in range(length) for kind in table
                    if fits_by_cells(roll, kind, place)
                ]
                self.assertEqual(all_pieces(roll, table), told)

    def test_long_roll_and_full_table(self):
        table = [(name, 25 * step + 25, 1, TOP - 1) for step, name in enumerate("hgfedcba")]
        told = [
            (place, kind[0])
            for place in range(200) for kind in table
            if place + kind[1] <= 200
        ]
        self.assertEqual(all_pieces([1] * 200, table), told)

    def test_kinds_of_plain_tuples(self):
        for piece in all_pieces([0, 0, 0], TABLE):
            self.assertIs(type(piece), tuple)
            self.assertIs(type(piece[0]), int)
            self.assertIs(type(piece[1]), str)


class TestEndOf(unittest.TestCase):
    def test_any_place(self):
        for place in (-WIDE, -TOP, -3, -1, 0, 1, 7, 199, 200, 203, TOP, WIDE):
            for kind in TABLE:
                self.assertEqual(end_of(TABLE, (place, kind[0])), place + kind[1])

    def test_widest(self):
        self.assertEqual(end_of([("a", 200, 1, 0)], (0, "a")), 200)
        self.assertEqual(end_of([("a", 200, 1, 0)], (-200, "a")), 0)

    def test_no_such_kind(self):
        for name in ("", "c", "ab", "abcd", "A", " a", "a ", "1", "a" * 203, "~"):
            for place in (-WIDE, -1, 0, 5, WIDE):
                with self.assertRaises(NoKind) as caught:
                    end_of(TABLE, (place, name))
                self.assertIs(type(caught.exception), NoKind)

    def test_table_without_kinds(self):
        with self.assertRaises(NoKind):
            end_of([], (0, "a"))


class TestWhoseLists(unittest.TestCase):
    def test_what_is_handed_in_stays(self):
        roll, table = [0, 1, 3, 0], list(TABLE)
        for time in range(2):
            self.assertIs(fits(roll, table[0], 0), True)
            self.assertIs(fits(roll, table[0], 1), False)
            self.assertEqual(end_of(table, (3, "abc")), 6)
            with self.assertRaises(NoKind):
                end_of(table, (3, "c"))
            self.assertEqual(len(all_pieces(roll, table)), 5)
            self.assertEqual(roll, [0, 1, 3, 0])
            self.assertEqual(table, TABLE)

    def test_told_lists_are_the_askers_own(self):
        for roll in ([], [0, 0, 0]):
            first, second = all_pieces(roll, TABLE), all_pieces(roll, TABLE)
            kept = list(first)
            self.assertEqual(second, kept)
            self.assertIsNot(first, second)
            first.append((9, "a"))
            second.clear()
            self.assertEqual(all_pieces(roll, TABLE), kept)

    def test_what_is_done_later_to_roll_and_table(self):
        roll, table = [0, 0], [("a", 1, 1, 0)]
        told = all_pieces(roll, table)
        roll[0] = 5
        table.append(("b", 1, 1, 5))
        self.assertEqual(told, [(0, "a"), (1, "a")])
        self.assertEqual(all_pieces(roll, table), [(0, "b"), (1, "a"), (1, "b")])


if __name__ == "__main__":
    unittest.main()
