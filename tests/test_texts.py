"""Promises 33 and 34, and promises 2, 3 and 4 for the functions of texts."""

import itertools
import re
import unittest

from selvage.errors import NoLine
from selvage.tables import fault
from selvage.texts import read_cutting, read_numbers, read_table, show_cutting, show_numbers, show_table
from trying import FULL, LONG, TABLES, TOP, WIDE, check_lists

NUMBER = r"(?:0|-?[1-9][0-9]{0,19})"
NAME = r"[a-z]{1,8}"
NO_NUMBERS = (
    "-0", "00", "01", "-01", "+1", "+0", "--1", "1-", "-", "", "1.", "1.0", "1e3", "1_0", "0x1", "a", "1a", "a1",
    "1,2", "1;", "/", ":", "1:", ":1", "1/2", "~", "0-", "- 1", "9" * 21, "-" + "9" * 21, "1" + "0" * 20,
    "9" * 60, "0" * 20, "0" + "1" * 19, "-0" + "1" * 19, "(1)", "\"1\"", "1+1",
)
NO_NAMES = ("", "abcdefghi", "A", "aB", "a1", "1", "a_b", "-", "a-b", "a:b", "a.", "~", "/", "{", "`", "zzzzzzzzz")
SIGNS = "".join(chr(sign) for sign in range(32, 127) if chr(sign) != "%")


class Case(unittest.TestCase):
    def refused(self, read, line):
        with self.assertRaises(NoLine, msg=line) as caught:
            read(line)
        self.assertIs(type(caught.exception), NoLine)

    def read(self, ask, line, right):
        told = ask(line)
        self.assertEqual(told, right, line)
        self.assertIs(type(told), list)


class TestShow(unittest.TestCase):
    def test_numbers(self):
        self.assertEqual(show_numbers([]), "-")
        self.assertEqual(show_numbers([0]), "0")
        self.assertEqual(show_numbers([3, 0, -7, 12]), "3 0 -7 12")
        self.assertEqual(show_numbers([-1]), "-1")
        self.assertEqual(show_numbers([10 ** 20]), "1" + "0" * 20)
        self.assertEqual(show_numbers([WIDE, -WIDE, 0]), "9" * 60 + " -" + "9" * 60 + " 0")
        self.assertEqual(show_numbers([10 ** 400]), "1" + "0" * 400)
        self.assertEqual(show_numbers([5] * 203), " ".join("5" * 203))

    def test_table(self):
        self.assertEqual(show_table([]), "-")
        self.assertEqual(show_table([("a", 1, 2, 3)]), "a 1 2 3")
        self.assertEqual(show_table([("bc", 3, 9, 4), ("a", 1, 2, 0)]), "bc 3 9 4 / a 1 2 0")
        self.assertEqual(
            show_table([("abcdefgh", 200, TOP, TOP - 1)]),
            "abcdefgh 200 1000000000000000000 999999999999999999",
        )
        self.assertEqual(show_table(FULL).count(" / "), 7)

    def test_cutting(self):
        self.assertEqual(show_cutting([]), "-")
        self.assertEqual(show_cutting([(3, "a"), (9, "bc")]), "3:a 9:bc")
        self.assertEqual(show_cutting([(0, "abcdefgh")]), "0:abcdefgh")
        self.assertEqual(show_cutting([(-4, "zz"), (-4, "zz"), (2, "b")]), "-4:zz -4:zz 2:b")
        self.assertEqual(show_cutting([(WIDE, "a"), (-WIDE, "b")]), "9" * 60 + ":a -" + "9" * 60 + ":b")


class TestReadNumbers(Case):
    def test_ordinary(self):
        self.read(read_numbers, "3 0 -7 12", [3, 0, -7, 12])
        self.read(read_numbers, "0", [0])
        self.read(read_numbers, "-1", [-1])
        self.read(read_numbers, "-", [])
        self.read(read_numbers, "10 100 -10", [10, 100, -10])

    def test_twenty_figures_and_more(self):
        self.read(read_numbers, "9" * 20, [10 ** 20 - 1])
        self.read(read_numbers, "-" + "9" * 20, [1 - 10 ** 20])
        self.read(read_numbers, "1" + "0" * 19, [10 ** 19])
        self.refused(read_numbers, "9" * 21)
        self.refused(read_numbers, "-" + "9" * 21)
        self.refused(read_numbers, "1" + "0" * 20)
        self.refused(read_numbers, "1 " + "9" * 21 + " 2")

    def test_many(self):
        self.read(read_numbers, " ".join(["7"] * 203), [7] * 203)
        self.read(read_numbers, " ".join(["0"] * 201), [0] * 201)
        self.refused(read_numbers, " ".join(["7"] * 203 + ["x"]))

    def test_no_numbers(self):
        for word in NO_NUMBERS:
            if word != "-":
                self.refused(read_numbers, word)
            for line in ("1 " + word, word + " 1", "1 " + word + " 2"):
                self.refused(read_numbers, line)

    def test_blanks(self):
        for line in ("", " ", "  ", " 1", "1 ", "1  2", " -", "- ", "1 2 ", " 1 2", "1   2", "-  ", "- -", "- 1", "1 -"):
            self.refused(read_numbers, line)

    def test_word_by_word(self):
        right = re.compile(f"-|{NUMBER}( {NUMBER})*")
        for length in range(6):
            for signs in itertools.product("01-+ ", repeat=length):
                line = "".join(signs)
                if right.fullmatch(line):
                    self.read(read_numbers, line, [] if line == "-" else [int(word) for word in line.split(" ")])
                else:
                    self.refused(read_numbers, line)

    def test_each_sign(self):
        for sign in SIGNS:
            if sign in "0123456789":
                self.read(read_numbers, sign, [int(sign)])
                self.read(read_numbers, "1" + sign, [10 + int(sign)])
            elif sign != "-":
                self.refused(read_numbers, sign)
                self.refused(read_numbers, "1" + sign)
                self.refused(read_numbers, sign + "1")

    def test_read_back(self):
        for some in ([], [0], [5, -5], [10 ** 20 - 1, 1 - 10 ** 20, 0], LONG, list(range(-100, 103))):
            self.read(read_numbers, show_numbers(some), some)
        self.refused(read_numbers, show_numbers([10 ** 20]))
        self.refused(read_numbers, show_numbers([-10 ** 20]))


class TestReadTable(Case):
    def test_ordinary(self):
        self.read(read_table, "-", [])
        self.read(read_table, "a 1 2 3", [("a", 1, 2, 3)])
        self.read(read_table, "bc 3 9 4 / a 1 2 0", [("bc", 3, 9, 4), ("a", 1, 2, 0)])
        for kind in read_table("bc 3 9 4 / a 1 2 0"):
            self.assertEqual([type(part) for part in kind], [str, int, int, int])
            self.assertIs(type(kind), tuple)

    def test_eight_and_nine_kinds(self):
        kinds = [f"{name} 1 1 0" for name in "abcdefghi"]
        self.read(read_table, " / ".join(kinds[:8]), [(name, 1, 1, 0) for name in "abcdefgh"])
        self.refused(read_table, " / ".join(kinds))

    def test_a_name_twice(self):
        self.refused(read_table, "a 1 1 0 / a 1 1 0")
        self.refused(read_table, "a 1 1 0 / b 1 1 0 / a 2 1 0")

    def test_names(self):
        for name in ("a", "z", "abcdefgh", "zzzzzzzz"):
            self.read(read_table, f"{name} 1 1 0", [(name, 1, 1, 0)])
        for name in NO_NAMES:
            self.refused(read_table, f"{name} 1 1 0")
            self.refused(read_table, f"b 1 1 0 / {name} 1 1 0")

    def test_numbers_at_their_bounds_and_beyond(self):
        for width, worth, allowed in ((1, 1, 0), (200, TOP, TOP - 1), (1, TOP, 0), (200, 1, TOP - 1)):
            self.read(read_table, f"a {width} {worth} {allowed}", [("a", width, worth, allowed)])
        beyond = (
            (0, 1, 0), (201, 1, 0), (-1, 1, 0), (1, 0, 0), (1, TOP + 1, 0), (1, -1, 0), (1, 1, -1), (1, 1, TOP),
            (10 ** 19, 1, 0), (1, 10 ** 19, 0), (1, 1, 10 ** 19), (WIDE, 1, 0), (1, WIDE, 0), (1, 1, WIDE),
        )
        for width, worth, allowed in beyond:
            self.refused(read_table, f"a {width} {worth} {allowed}")
            self.refused(read_table, f"b 1 1 0 / a {width} {worth} {allowed}")

    def test_numbers_that_are_none(self):
        for word in NO_NUMBERS:
            for line in (f"a {word} 1 0", f"a 1 {word} 0", f"a 1 1 {word}"):
                self.refused(read_table, line)

    def test_too_few_and_too_many_words(self):
        for line in ("", "a", "a 1", "a 1 1", "a 1 1 0 0", "a 1 1 0 b 1 1 0", "1 1 0", "a b 1 1 0"):
            self.refused(read_table, line)
            self.refused(read_table, "c 1 1 0 / " + line)
            self.refused(read_table, line + " / c 1 1 0")

    def test_between_the_kinds(self):
        wrong = (
            "a 1 1 0 /b 1 1 0", "a 1 1 0/ b 1 1 0", "a 1 1 0/b 1 1 0", "a 1 1 0 /  b 1 1 0", "a 1 1 0  / b 1 1 0",
            "a 1 1 0 / / b 1 1 0", "a 1 1 0 // b 1 1 0", "a 1 1 0 / ", "a 1 1 0 /", " / a 1 1 0", "/ a 1 1 0", "/",
            " / ", "a 1 1 0 : b 1 1 0", "a 1 1 0 / -", "- / a 1 1 0", "- / -", "a 1 1 0 ", " a 1 1 0", "a  1 1 0",
            "a 1 1  0", " ", " -", "- ", "--", "a / 1 1 0",
        )
        for line in wrong:
            self.refused(read_table, line)

    def test_read_back(self):
        for table in TABLES + (FULL, [("abcdefgh", 200, TOP, TOP - 1)]):
            self.assertIsNone(fault(table))
            self.read(read_table, show_table(table), table)


class TestReadCutting(Case):
    def test_ordinary(self):
        self.read(read_cutting, "-", [])
        self.read(read_cutting, "3:a 9:bc", [(3, "a"), (9, "bc")])
        self.read(read_cutting, "0:abcdefgh", [(0, "abcdefgh")])
        for piece in read_cutting("3:a 9:bc"):
            self.assertEqual([type(piece)] + [type(part) for part in piece], [tuple, int, str])

    def test_any_pieces(self):
        self.read(read_cutting, "-4:zz -4:zz 2:b", [(-4, "zz"), (-4, "zz"), (2, "b")])
        self.read(read_cutting, "9:a 3:a", [(9, "a"), (3, "a")])
        self.read(read_cutting, "9" * 20 + ":a -" + "9" * 20 + ":b", [(10 ** 20 - 1, "a"), (1 - 10 ** 20, "b")])
        self.read(read_cutting, " ".join(["1:x"] * 203), [(1, "x")] * 203)

    def test_places_that_are_none(self):
        for word in NO_NUMBERS:
            self.refused(read_cutting, word + ":a")
            self.refused(read_cutting, "1:a " + word + ":a")

    def test_names_that_are_none(self):
        for name in NO_NAMES:
            self.refused(read_cutting, "1:" + name)
            self.refused(read_cutting, "1:" + name + " 2:a")

    def test_wrong_forms(self):
        wrong = (
            "", " ", "1", "a", "1a", "1 a", "a:1", "1::a", "1:a:", ":1:a", "1:a:b", "1:2:a", "1:", ":a", ":", "1 :a",
            "1: a", "1:a ", " 1:a", "1:a  2:b", "1:a,2:b", "1:a2:b", "1:a -", "- 1:a", "--", "- -", " -", "- ", "1;a",
            "1:a / 2:b", "1:a /",
        )
        for line in wrong:
            self.refused(read_cutting, line)

    def test_word_by_word(self):
        right = re.compile(f"-|{NUMBER}:{NAME}( {NUMBER}:{NAME})*")
        for length in range(8):
            for signs in itertools.product("1-: a" if length < 7 else "1: a", repeat=length):
                line = "".join(signs)
                if right.fullmatch(line):
                    told = [(int(word.split(":")[0]), word.split(":")[1]) for word in line.split(" ") if line != "-"]
                    self.read(read_cutting, line, told)
                else:
                    self.refused(read_cutting, line)

    def test_read_back(self):
        for cutting in ([], [(0, "a")], [(-3, "abcdefgh"), (7, "b"), (7, "b")], [(10 ** 20 - 1, "z")]):
            self.read(read_cutting, show_cutting(cutting), cutting)
        self.refused(read_cutting, show_cutting([(10 ** 20, "z")]))


class TestTheOthersLines(Case):
    def test_each_refuses_what_the_others_write(self):
        for line in ("0", "1 2 3", "-5"):
            self.refused(read_table, line)
            self.refused(read_cutting, line)
        for line in ("a 1 1 0", "a 1 1 0 / b 1 1 0"):
            self.refused(read_numbers, line)
            self.refused(read_cutting, line)
        for line in ("0:a", "0:a 5:bc"):
            self.refused(read_numbers, line)
            self.refused(read_table, line)
        for read in (read_numbers, read_table, read_cutting):
            self.read(read, "-", [])

    def test_any_text(self):
        for line in ("no line", "ok", "none", "a", "A", "~" * 300, SIGNS, "\\", "'", "\"", "{", "{0}", " " * 203):
            for read in (read_numbers, read_table, read_cutting):
                self.refused(read, line)


class TestWhoseLists(unittest.TestCase):
    def test_all(self):
        for some in ([], [0, -1, WIDE], LONG):
            check_lists(self, show_numbers, some)
            check_lists(self, read_numbers, show_numbers(some))
        for table in TABLES + (FULL,):
            check_lists(self, show_table, table)
            check_lists(self, read_table, show_table(table))
        for cutting in ([], [(3, "a"), (9, "bc")], [(-1, "z")]):
            check_lists(self, show_cutting, cutting)
            check_lists(self, read_cutting, show_cutting(cutting))


if __name__ == "__main__":
    unittest.main()
