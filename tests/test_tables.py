"""Promise 6, and promises 2, 3 and 4 for the functions of tables."""

import copy
import itertools
import re
import unittest

from selvage.errors import NoKind, NotATable
from selvage.tables import checked_table, fault, kind_of, names

TOP = 10 ** 18
WIDE = 10 ** 60 - 1
EIGHT = [(name, 3, 5, 1) for name in "abcdefgh"]
SIGNS = [chr(code) for code in range(32, 127) if chr(code) != "%"]
NO_LETTERS = [sign for sign in SIGNS if sign not in "abcdefghijklmnopqrstuvwxyz"]
GOOD_NAMES = ["a", "z", "m", "ab", "zzz", "selvage", "abcdefgh", "zzzzzzzz"]
WRONG_NAMES = ["", "abcdefghi", "a" * 9, "z" * 203, "A", "aB", "a b", " a", "a ", "a1", "a_b", "-", "0"]
GOOD_WIDTHS = [1, 2, 199, 200]
WRONG_WIDTHS = [0, -1, 201, -200, TOP, WIDE, -WIDE]
GOOD_WORTHS = [1, 2, TOP - 1, TOP]
WRONG_WORTHS = [0, -1, TOP + 1, -TOP, WIDE, -WIDE]
GOOD_ALLOWED = [0, 1, TOP - 2, TOP - 1]
WRONG_ALLOWED = [-1, TOP, TOP + 1, -TOP, WIDE, -WIDE]
WRONG_KINDS = (
    [(name, 3, 5, 1) for name in WRONG_NAMES]
    + [("x", width, 5, 1) for width in WRONG_WIDTHS]
    + [("x", 3, worth, 1) for worth in WRONG_WORTHS]
    + [("x", 3, 5, allowed) for allowed in WRONG_ALLOWED]
)


def is_good(kind):
    name, width, worth, allowed = kind
    return (
        re.fullmatch("[a-z]{1,8}", name) is not None
        and width in range(1, 201)
        and worth in range(1, TOP + 1)
        and allowed in range(TOP)
    )


def first_wrong(table):
    for place in range(len(table)):
        ahead = [kind[0] for kind in table[:place]]
        if place > 7 or not is_good(table[place]) or table[place][0] in ahead:
            return place
    return None


def many_names(count):
    return ["".join(pair) for pair in itertools.product("abcdefghijklmno", repeat=2)][:count]


class TableCase(unittest.TestCase):
    def good(self, table):
        self.assertIsNone(fault(table), table)
        told = checked_table(table)
        self.assertEqual(told, table)
        self.assertIsNot(told, table)
        self.assertIs(type(told), list)

    def wrong(self, table, place):
        self.assertEqual(fault(table), place, table)
        self.assertIs(type(fault(table)), int)
        with self.assertRaises(NotATable) as caught:
            checked_table(table)
        self.assertIs(type(caught.exception), NotATable)
        self.assertEqual(caught.exception.at, place)


class TestFault(TableCase):
    def test_no_kinds(self):
        self.good([])

    def test_ordinary(self):
        self.good([("shirt", 12, 40, 3), ("cuff", 2, 5, 0), ("sail", 90, 700, 25)])

    def test_good_edges(self):
        for kind in itertools.product(GOOD_NAMES, GOOD_WIDTHS, GOOD_WORTHS, GOOD_ALLOWED):
            self.good([kind])

    def test_wrong_alone(self):
        for kind in WRONG_KINDS:
            self.wrong([kind], 0)

    def test_wrong_behind_good_ones(self):
        for kind in WRONG_KINDS:
            for place in (1, 4, 7):
                self.wrong(EIGHT[:place] + [kind] + EIGHT[place:7], place)

    def test_any_sign_that_is_no_small_letter(self):
        for sign in NO_LETTERS:
            for name in (sign, sign + "ab", "a" + sign + "b", "ab" + sign, "abcdefg" + sign):
                self.wrong([("ok", 1, 1, 0), (name, 1, 1, 0)], 1)

    def test_each_small_letter(self):
        for letter in "abcdefghijklmnopqrstuvwxyz":
            self.good([(letter, 1, 1, 0), (letter * 8, 1, 1, 0)])

    def test_all_widths(self):
        for width in range(-5, 206):
            if 1 <= width <= 200:
                self.good([("a", width, 1, 0)])
            else:
                self.wrong([("a", width, 1, 0)], 0)

    def test_name_of_an_earlier_kind(self):
        for first, second in itertools.combinations(range(8), 2):
            table = list(EIGHT)
            table[second] = (table[first][0], 9, 9, 9)
            self.wrong(table, second)

    def test_same_kind_twice(self):
        self.wrong([EIGHT[0], EIGHT[0]], 1)

    def test_alike_but_for_the_name(self):
        self.good([("a", 1, 1, 0), ("aa", 1, 1, 0), ("aaa", 1, 1, 0)])

    def test_name_that_comes_a_third_time(self):
        self.wrong([("a", 1, 1, 0), ("b", 1, 1, 0), ("b", 2, 2, 0), ("b", 3, 3, 0)], 2)

    def test_name_of_an_earlier_wrong_kind(self):
        self.wrong([("a", 0, 1, 0), ("a", 1, 1, 0)], 0)

    def test_eight_kinds_and_more(self):
        self.good(EIGHT)
        for count in (9, 10, 16, 100, 202, 203):
            self.wrong([(name, 1, 1, 0) for name in many_names(count)], 8)

    def test_more_than_eight_with_an_earlier_wrong_one(self):
        for place in range(8):
            table = [(name, 1, 1, 0) for name in many_names(203)]
            table[place] = (table[place][0], 201, 1, 0)
            self.wrong(table, place)

    def test_wrong_only_behind_the_eighth(self):
        self.wrong(EIGHT + [("", 0, 0, -1)], 8)
        self.wrong(EIGHT + [("i", 1, 1, 0), ("", 0, 0, -1)], 8)

    def test_the_first_of_several(self):
        for places in itertools.combinations(range(8), 2):
            table = list(EIGHT)
            for step, place in enumerate(places):
                table[place] = WRONG_KINDS[(7 * place + 11 * step) % len(WRONG_KINDS)]
            self.wrong(table, places[0])
        self.wrong([("", 0, 0, -1)] * 203, 0)

    def test_many_tables(self):
        kinds = [("a", 1, 1, 0), ("b", 200, TOP, TOP - 1), ("a", 2, 2, 2), ("b", 201, 1, 0), ("C", 1, 1, 0)]
        for length in range(5):
            for some in itertools.product(kinds, repeat=length):
                table = list(some)
                place = first_wrong(table)
                if place is None:
                    self.good(table)
                else:
                    self.wrong(table, place)

    def test_taken_as_soon_as_it_is_good(self):
        table = [("a", 1, 1, 0), ("a", 2, 2, 0)]
        self.wrong(table, 1)
        table[1] = ("b", 2, 2, 0)
        self.good(table)


class TestKindOf(unittest.TestCase):
    def test_each_kind(self):
        table = [("b", 3, 5, 1), ("a", 1, 2, 0), ("ab", 200, TOP, TOP - 1)]
        for kind in table:
            self.assertEqual(kind_of(table, kind[0]), kind)
            self.assertIs(type(kind_of(table, kind[0])), tuple)
        for kind in EIGHT:
            self.assertEqual(kind_of(EIGHT, kind[0]), kind)

    def test_no_such_kind(self):
        table = [("b", 3, 5, 1), ("a", 1, 2, 0), ("abc", 4, 4, 4)]
        for name in ["", "c", "ab", "abcd", "bc", "ba", "A", "B", " a", "a ", "a b", "abcdefghi"] + NO_LETTERS:
            with self.assertRaises(NoKind) as caught:
                kind_of(table, name)
            self.assertIs(type(caught.exception), NoKind)

    def test_table_without_kinds(self):
        for name in ("", "a", "abc", "a" * 203):
            with self.assertRaises(NoKind):
                kind_of([], name)

    def test_taken_as_soon_as_it_is_there(self):
        table = [("a", 1, 1, 0)]
        with self.assertRaises(NoKind):
            kind_of(table, "b")
        table.append(("b", 2, 2, 0))
        self.assertEqual(kind_of(table, "b"), ("b", 2, 2, 0))


class TestNames(unittest.TestCase):
    def test_in_order(self):
        self.assertEqual(names([("b", 3, 5, 1), ("a", 1, 2, 0), ("ab", 2, 9, 4)]), ["b", "a", "ab"])
        self.assertEqual(names(EIGHT), list("abcdefgh"))
        self.assertEqual(names(EIGHT[::-1]), list("hgfedcba"))

    def test_none(self):
        self.assertEqual(names([]), [])


class TestWhoseLists(unittest.TestCase):
    def test_what_is_handed_in_stays(self):
        for table in ([], EIGHT, [("b", 3, 5, 1), ("a", 1, 2, 0)], EIGHT + EIGHT, [("", 0, 0, -1)]):
            here = copy.deepcopy(table)
            fault(here)
            names(here)
            for ask in (lambda: checked_table(here), lambda: kind_of(here, "a"), lambda: kind_of(here, "q")):
                try:
                    ask()
                except (NotATable, NoKind):
                    pass
                self.assertEqual(here, table)

    def test_told_lists_are_the_askers_own(self):
        for ask in (checked_table, names):
            for table in ([], [("b", 3, 5, 1), ("a", 1, 2, 0)]):
                here = list(table)
                first, second = ask(here), ask(here)
                kept = list(first)
                self.assertEqual(second, kept)
                self.assertIsNot(first, second)
                first.append("more")
                second.clear()
                self.assertEqual(here, table)
                self.assertEqual(ask(here), kept)

    def test_what_is_done_later_to_the_table(self):
        table = [("b", 3, 5, 1), ("a", 1, 2, 0)]
        checked, named = checked_table(table), names(table)
        table.reverse()
        table.pop()
        self.assertEqual(checked, [("b", 3, 5, 1), ("a", 1, 2, 0)])
        self.assertEqual(named, ["b", "a"])
        self.assertEqual(checked_table(table), [("a", 1, 2, 0)])
        self.assertEqual(names(table), ["a"])

    def test_asked_again(self):
        for table in (EIGHT, EIGHT + EIGHT, [("", 0, 0, -1)]):
            self.assertEqual([fault(table) for time in range(3)], [first_wrong(table)] * 3)
        self.assertEqual([kind_of(EIGHT, "c") for time in range(3)], [EIGHT[2]] * 3)


if __name__ == "__main__":
    unittest.main()
