"""Promises 35 and 36, and promises 2, 3 and 4 for the class Desk."""

import re
import unittest

from selvage.best import best
from selvage.counts import all_best, best_count
from selvage.desk import Desk
from selvage.errors import Short
from selvage.feed import Feed
from selvage.filling import fill
from selvage.judge import amount
from selvage.mending import mended_best
from selvage.orders import plan_left
from selvage.parting import best_parting, free_places
from selvage.places import all_pieces
from selvage.prices import shows
from selvage.rolls import changed
from selvage.standing import loss, runner_up
from selvage.texts import read_cutting, read_numbers, show_cutting, show_numbers, show_table
from trying import FULL, LONG, TABLES, TOP, mixed, small_rolls

TABLE = [("b", 2, 5, 1), ("a", 1, 2, 0), ("abc", 3, 9, 4)]
CLASP = "table c 2 7 0"
NO_ROLLS = (
    "", " ", "x", "1 x", "-1", "0 -1 0", "0  0", " 0", "0 ", "01", "- 0", "0 -", "--", "1000000000000000001",
    "0 1000000000000000001", "9" * 21, "0:a", "a 1 1 0", "0 / 0", "+1", " -", "- ", " ".join(["0"] * 201),
)
NO_NAMES = ("", " ", "A", "aB", "abcdefghi", "a1", "1", "-", "a:", "a ", " a", "a b", "/", "~")
NO_NUMBERS = ("", " ", "x", "01", "-0", "+1", "-", "1 2", "1 ", " 1", "9" * 21, "-" + "9" * 21, "1.0", "0:a", "/")
ALL_WORDS = (
    "table best count all second loss free parts mend begin take close sure settled told drop "
    "lay serve sell back again stock total sums".split()
)


def words(some):
    return " ".join(str(one) for one in some) if some else "-"


class Case(unittest.TestCase):
    def setUp(self):
        self.desk = Desk()

    def say(self, line, *right):
        told = self.desk.say(line)
        self.assertIs(type(told), list)
        self.assertEqual(told, list(right), line)

    def no_line(self, *lines):
        for line in lines:
            self.say(line, "no line")

    def all_of(self):
        """All that a desk tells without being changed."""
        told = [self.desk.say(line) for line in ("stock", "total", "sums", "best 0 0 1 0")]
        for name in ("a", "b", "c", "abcdefgh"):
            told.append([self.desk.say(word + " " + name) for word in ("sure", "settled", "told")])
        return told


class TestTable(Case):
    def test_at_first_without_kinds(self):
        self.say("best 0 0 0", "0", "-", "0 0 0")
        self.say("count 0 0", "1")
        self.say("all 1 0 0", "-")
        self.say("second 0 0", "none")
        self.say("loss 0 a 0", "no fit")
        self.say("free 0 0", "0 1 2")
        self.say("parts 2 0 0 0", "0", "1")
        self.say("mend 3 0 0 0", "0", "-", "-")
        self.say("stock")
        self.say("total", "0")
        self.say("sums", "0 0 0 0")
        self.say("back", "no deed")
        self.say("again", "no deed")
        self.say("lay 0 5", "0")
        self.say("sell 0", "-")
        self.say("serve - by 0")
        self.say("stock", "0 0 5")
        self.say("begin x", "ok")
        self.say("take x 0 0", "-")
        self.say("settled x", "2")

    def test_a_table_is_taken(self):
        for table in TABLES + (FULL,):
            self.say("table " + show_table(table), "ok")
            worth, cutting = best([0, 0, 1, 0, 0], table)
            self.assertEqual(self.desk.say("best 0 0 1 0 0")[:2], [str(worth), show_cutting(cutting)])

    def test_a_new_table_is_a_new_stock_without_feeds(self):
        self.say("table " + show_table(TABLE), "ok")
        self.say("lay 0 0", "0")
        self.say("lay 0 0", "1")
        self.say("sell 0", "0:b")
        self.say("back", "ok")
        self.say("begin a", "ok")
        self.say("take a 9", "-")
        self.say("table " + show_table(TABLE), "ok")
        self.say("again", "no deed")
        self.say("back", "no deed")
        self.say("stock")
        self.say("total", "0")
        self.say("sums", "0 0 0 0")
        self.say("sure a", "no name")
        self.say("lay 0", "0")
        self.say("begin a", "ok")
        self.say("told a", "-")
        self.say("table -", "ok")
        self.say("best 0", "0", "-", "0")
        self.say("stock")
        self.say("told a", "no name")

    def test_a_new_table_makes_room(self):
        for name in "abcdefghijkl":
            self.say("begin " + name, "ok")
        self.say("begin m", "no room")
        self.say("table -", "ok")
        self.say("begin m", "ok")

    def test_a_spoilt_table_line_changes_nothing(self):
        self.say("table " + show_table(TABLE), "ok")
        self.say("lay 0 0", "0")
        self.say("sell 0", "0:b")
        self.say("lay 3", "1")
        self.say("back", "ok")
        self.say("begin a", "ok")
        self.say("take a 0 9", "0:a")
        before = self.all_of()
        wrong = (
            "table", "table ", "table  -", "table - ", "table a", "table a 1 1", "table a 1 1 0 ", "table a 0 1 0",
            "table a 201 1 0", "table a 1 0 0", "table a 1 1 -1", "table A 1 1 0", "table abcdefghi 1 1 0",
            "table a 1 1 0 / a 1 1 0", "table a 1 1 0 /b 1 1 0", "table a 1 1 0 b 1 1 0", "table a 1 1000000000000000001 0",
            "table a 1 1 1000000000000000000", "table " + " / ".join(f"{name} 1 1 0" for name in "abcdefghi"),
            "Table -", "tables -", "table 0", "table 0:a",
        )
        for line in wrong:
            self.say(line, "no line")
            self.assertEqual(self.all_of(), before)
        self.say("again", "1")


class TestQuestions(Case):
    def with_table(self, table):
        self.say("table " + show_table(table), "ok")

    def check_best(self, roll, table):
        told = self.desk.say("best " + words(roll))
        worth, cutting = best(roll, table)
        self.assertEqual(told[:2], [str(worth), show_cutting(cutting)])
        self.assertEqual(len(told), 3)
        self.assertIs(shows(roll, table, worth, read_numbers(told[2])), True)

    def check_mend(self, roll, table, most):
        told = self.desk.say(f"mend {most} {words(roll)}")
        self.assertEqual(len(told), 3)
        cells, mended = read_numbers(told[1]), list(roll)
        self.assertEqual(cells, sorted(set(cells)))
        self.assertLessEqual(len(cells), most)
        for cell in cells:
            mended = changed(mended, cell, 0)
        self.assertEqual(told[0], str(mended_best(roll, table, most)[0]))
        self.assertEqual(str(amount(mended, table, read_cutting(told[2]))), told[0])

    def check_all(self, roll, table):
        line = words(roll)
        self.check_best(roll, table)
        number = best_count(roll, table)
        self.say("count " + line, str(number))
        self.say("all 200 " + line, *[show_cutting(cutting) for cutting in all_best(roll, table, 200)])
        self.say(f"all {number} {line}", *[show_cutting(cutting) for cutting in all_best(roll, table, number)])
        self.say(f"all {number - 1} {line}", "no many")
        second = runner_up(roll, table)
        self.say("second " + line, "none" if second is None else str(second))
        self.say("free " + line, show_numbers(free_places(roll, table)))
        for place, name in all_pieces(roll, table):
            self.say(f"loss {place} {name} {line}", str(loss(roll, table, (place, name))))
        for parts in range(1, len(roll) + 1):
            worth, places = best_parting(roll, table, parts)
            self.say(f"parts {parts} {line}", str(worth), show_numbers(places))
        self.say(f"parts {len(roll) + 2} {line}", "no parts")
        for most in range(3):
            self.check_mend(roll, table, most)

    def test_ordinary(self):
        self.say("table shirt 3 9 4 / cuff 1 2 0", "ok")
        self.assertEqual(self.desk.say("best 0 1 3 0")[:2], ["11", "0:cuff 1:shirt"])
        self.say("count 0 1 3 0", "2")
        self.say("all 2 0 1 3 0", "0:cuff 1:shirt", "0:shirt 3:cuff")
        self.say("second 0 1 3 0", "9")
        self.say("loss 0 cuff 0 1 3 0", "0")
        self.say("loss 0 shirt 0 1 1 0", "0")
        self.say("loss 0 cuff 0 0", "0")
        self.say("free 0 1 3 0", "0 1 3 4")
        self.say("parts 2 0 1 3 0", "11", "1")
        self.say("parts 1 0 1 3 0", "11", "-")
        self.say("mend 1 0 5 0", "9", "1", "0:shirt")
        self.say("mend 0 0 5 0", "4", "-", "0:cuff 2:cuff")

    def test_against_the_functions(self):
        for table in TABLES:
            self.with_table(table)
            for roll in small_rolls(3):
                self.check_all(roll, table)
            for seed in range(3):
                self.check_all(mixed(seed, 6, (0, 0, 1, 3)), table)

    def test_the_roll_without_cells(self):
        for table in ([], TABLE):
            self.with_table(table)
            self.say("best -", "0", "-", "-")
            self.say("count -", "1")
            self.say("all 0 -", "no many")
            self.say("all 1 -", "-")
            self.say("second -", "none")
            self.say("loss 0 a -", "no fit")
            self.say("free -", "0")
            self.say("parts 1 -", "0", "-")
            self.say("parts 0 -", "no parts")
            self.say("parts 2 -", "no parts")
            self.say("mend 0 -", "0", "-", "-")
            self.say("mend 5 -", "0", "-", "-")

    def test_two_hundred_cells_and_one_more(self):
        self.with_table(FULL)
        full, more = words(LONG), words(LONG + [0])
        self.check_best(LONG, FULL)
        self.say("count " + full, str(best_count(LONG, FULL)))
        self.say("second " + full, str(runner_up(LONG, FULL)))
        self.say("free " + full, show_numbers(free_places(LONG, FULL)))
        self.say("loss 200 h " + full, "no fit")
        self.say("all 0 " + full, "no many")
        self.say("lay " + full, "0")
        self.say("begin x", "ok")
        self.with_table([])
        self.say("begin x", "ok")
        self.say("take x " + full, "-")
        for line in ("best", "count", "second", "free", "loss 0 h", "all 200", "lay", "take x", "parts 1", "mend 1"):
            self.no_line(line + " " + more)
        self.say("stock")

    def test_sixty_cells_and_one_more(self):
        self.with_table(FULL)
        roll = LONG[:60]
        worth, places = best_parting(roll, FULL, 4)
        self.say("parts 4 " + words(roll), str(worth), show_numbers(places))
        self.check_mend(roll, FULL, 4)
        for word in ("parts", "mend"):
            self.no_line(f"{word} 4 {words(LONG[:61])}", f"{word} 0 {words(LONG)}")
        self.no_line("parts 0 " + words(LONG[:61]), "parts 99 " + words(LONG[:61]))

    def test_most_of_all(self):
        self.with_table([("a", 1, 1, 0), ("b", 1, 1, 0)])
        self.say("all 0 0", "no many")
        self.say("all 1 0", "no many")
        self.say("all 2 0", "0:a", "0:b")
        self.say("all 200 0", "0:a", "0:b")
        self.say("all 128 0 0 0 0 0 0 0", *self.desk.say("all 200 0 0 0 0 0 0 0"))
        self.say("all 200 0 0 0 0 0 0 0 0", "no many")
        for most in (201, -1, 202, 1000, TOP, 10 ** 20 - 1, -200):
            self.no_line(f"all {most} 0", f"all {most} -")

    def test_most_of_mend(self):
        self.with_table([("a", 2, 1, 0)])
        self.say("mend 0 5 5", "0", "-", "-")
        self.say("mend 1 5 5", "0", "-", "-")
        for most in (2, 3, 200, 201, 10 ** 20 - 1):
            self.say(f"mend {most} 5 5", "1", "0 1", "0:a")
        for most in (-1, -2, -200, 1 - 10 ** 20):
            self.no_line(f"mend {most} 5 5", f"mend {most} -")

    def test_any_parts_and_places(self):
        self.with_table(TABLE)
        for number in (0, -1, 4, 99, 10 ** 20 - 1, 1 - 10 ** 20):
            self.say(f"parts {number} 0 0 0", "no parts")
            self.say(f"loss {number} abc 0 0 0 0 0", "no fit" if number else "0")
        self.say("loss 0 zz 0 0", "no fit")
        self.say("loss 0 abcdefgh 0 0", "no fit")
        self.say("loss 1 b 0 0", "no fit")
        self.say("loss 0 b 2 0", "no fit")

    def test_great_worths(self):
        self.with_table([("a", 1, TOP, 0)])
        self.assertEqual(self.desk.say("best " + words([0] * 200))[0], str(200 * TOP))
        self.say("second 0 0", str(TOP))
        self.say("count " + words([0] * 200), "1")

    def test_no_rolls(self):
        self.with_table(TABLE)
        for roll in NO_ROLLS:
            self.no_line(*[word + " " + roll for word in ("best", "count", "second", "free", "lay")])
            self.no_line("all 5 " + roll, "loss 0 a " + roll, "parts 1 " + roll, "mend 1 " + roll)
        self.say("best 1000000000000000000", "0", "-", "0")

    def test_no_numbers(self):
        self.with_table(TABLE)
        for number in NO_NUMBERS:
            if " " not in number:
                self.no_line(*[f"{word} {number} 0 0" for word in ("all", "parts", "mend")])
                self.no_line(*[f"{word} {number} -" for word in ("all", "parts", "mend")])
            self.no_line(f"loss {number} a 0")
        for word in ("all", "parts", "mend"):
            self.no_line(word + " 1", word + " 1 ", word + "  1 0", word + " 1  0", word + " 1 0 ", word + " 0 x")
        self.no_line("loss  a 0", "loss 0  0", "loss 0 a  0")

    def test_names_in_loss(self):
        self.with_table(TABLE)
        for name in NO_NAMES:
            self.no_line(f"loss 0 {name} 0")
        self.no_line("loss", "loss ", "loss 0", "loss 0 a", "loss 0 a ", "loss a 0 0", "loss 0:a 0 0", "loss 0 a 0 x")

    def test_questions_change_nothing(self):
        self.with_table(TABLE)
        self.say("lay 0 0", "0")
        self.say("back", "ok")
        before = self.all_of()
        for line in ("best 0", "count 0", "all 9 0", "second 0", "loss 0 a 0", "free 0", "parts 1 0", "mend 1 5"):
            self.desk.say(line)
            self.assertEqual(self.all_of(), before)
        self.say("again", "0")


class TestFeeds(Case):
    def setUp(self):
        Case.setUp(self)
        self.say("table " + show_table(TABLE), "ok")

    def test_ordinary(self):
        self.say("table shirt 3 9 4 / cuff 1 2 0", "ok")
        self.say("begin web", "ok")
        self.say("take web 0 0 5 0", "0:cuff 1:cuff")
        self.say("sure web", "0:cuff 1:cuff")
        self.say("settled web", "3")
        self.say("told web", "0:cuff 1:cuff 3:cuff")
        self.say("close web", "3:cuff")
        self.say("sure web", "0:cuff 1:cuff 3:cuff")
        self.say("settled web", "4")
        self.say("told web", "0:cuff 1:cuff 3:cuff")
        self.say("drop web", "ok")
        self.say("told web", "no name")

    def test_against_a_feed(self):
        for place, table in enumerate(TABLES):
            self.say("table " + show_table(table), "ok")
            self.say("begin f", "ok")
            feed = Feed(table)
            for seed in range(5):
                roll = mixed(place * 9 + seed, seed, (0, 0, 0, 1, 3, 9))
                pieces = []
                for weight in roll:
                    pieces.extend(feed.take(weight))
                self.say("take f " + words(roll), show_cutting(pieces))
                self.say("sure f", show_cutting(feed.sure()))
                self.say("settled f", str(feed.settled()))
                self.say("told f", show_cutting(feed.cutting()))
            self.say("close f", show_cutting(feed.close()))
            self.say("told f", show_cutting(feed.cutting()))

    def test_names(self):
        for name in ("a", "z", "abcdefgh", "b", "abc", "by", "no", "ok", "take"):
            self.say("begin " + name, "ok")
            self.say("begin " + name, "no name")
            self.say("told " + name, "-")
        for name in NO_NAMES:
            self.no_line(*[word + " " + name for word in ("begin", "close", "sure", "settled", "told", "drop")])
            self.no_line(f"take {name} 0", f"take {name} -")
        self.no_line("begin", "take", "close", "sure", "settled", "told", "drop", "take a", "take a ", "take  0")

    def test_no_such_name(self):
        for word in ("close", "sure", "settled", "told", "drop"):
            self.say(word + " a", "no name")
        self.say("take a 0", "no name")
        self.say("take a -", "no name")
        self.say("take a " + words([0] * 200), "no name")
        self.say("begin a", "ok")
        self.say("close ab", "no name")
        self.say("drop a", "ok")
        self.say("drop a", "no name")

    def test_line_ahead_of_name(self):
        for roll in NO_ROLLS:
            self.no_line("take nobody " + roll)
        self.no_line("take nobody", "drop nobody ", "sure nobody 1", "begin nobody 0", "close a b", "settled a -")

    def test_name_ahead_of_room(self):
        for name in "abcdefghijkl":
            self.say("begin " + name, "ok")
        self.say("begin m", "no room")
        self.say("begin l", "no name")
        self.say("begin a", "no name")
        self.no_line("begin M", "begin")
        self.say("drop c", "ok")
        self.say("begin m", "ok")
        self.say("begin c", "no room")
        self.say("drop a", "ok")
        self.say("begin c", "ok")

    def test_closed_feeds_take_room_too(self):
        for name in "abcdefghijkl":
            self.say("begin " + name, "ok")
            self.say("close " + name, "-")
        self.say("begin m", "no room")

    def test_twelve_feeds_do_not_touch_one_another(self):
        for name in "abcdefghijkl":
            self.say("begin " + name, "ok")
        self.say("take f 0 9", "0:a")
        self.say("close g", "-")
        for name in "abcdehijkl":
            self.say("settled " + name, "0")
            self.say("told " + name, "-")
        self.say("take g 0", "no closed")
        self.say("take h 9", "-")

    def test_closed(self):
        self.say("begin a", "ok")
        self.say("take a 0 0", "-")
        self.say("close a", "0:b")
        self.say("close a", "no closed")
        self.say("take a 0", "no closed")
        self.say("take a " + words([0] * 200), "no closed")
        self.say("take a -", "-")
        self.no_line("take a x", "take a -1", "take a " + words([0] * 201))
        for word in ("sure", "told"):
            self.say(word + " a", "0:b")
        self.say("settled a", "2")

    def test_the_roll_without_cells(self):
        self.say("begin a", "ok")
        self.say("take a -", "-")
        self.say("settled a", "0")
        self.say("take a 9", "-")
        self.say("take a -", "-")
        self.say("settled a", "1")

    def test_more_cells_than_fit_take_none(self):
        self.say("table -", "ok")
        self.say("begin a", "ok")
        self.say("take a " + words([0] * 198), "-")
        self.say("settled a", "198")
        for count in (3, 4, 200):
            self.say("take a " + words([0] * count), "no long")
            self.say("settled a", "198")
        self.say("take a 0 0", "-")
        self.say("settled a", "200")
        self.say("take a 0", "no long")
        self.say("take a -", "-")
        self.say("close a", "-")
        self.say("take a 0", "no closed")
        self.say("take a -", "-")
        self.say("settled a", "200")

    def test_more_cells_than_fit_with_kinds(self):
        self.say("begin a", "ok")
        self.say("take a " + words([9] * 100), "-")
        self.say("take a " + words([9] * 101), "no long")
        self.say("settled a", "100")
        self.say("take a 0 9", "100:a")

    def test_drop_and_begin_anew(self):
        self.say("begin a", "ok")
        self.say("take a 0 9", "0:a")
        self.say("close a", "-")
        self.say("drop a", "ok")
        self.say("begin a", "ok")
        self.say("told a", "-")
        self.say("settled a", "0")
        self.say("take a 9 0 9", "1:a")

    def test_feeds_and_stock_do_not_touch_one_another(self):
        self.say("lay 0 0", "0")
        self.say("begin a", "ok")
        self.say("take a 0 9", "0:a")
        self.say("back", "ok")
        self.say("told a", "0:a")
        self.say("drop a", "ok")
        self.say("again", "0")
        self.say("told a", "no name")

    def test_two_named_feeds_and_a_kind_of_the_name(self):
        self.say("begin abc", "ok")
        self.say("take abc 0 9", "0:a")
        self.say("loss 0 abc 0 0 0", "0")


class TestStock(Case):
    def setUp(self):
        Case.setUp(self)
        self.say(CLASP, "ok")

    def test_ordinary(self):
        self.say("lay 5 0 0", "0")
        self.say("lay 0 0 5 5", "1")
        self.say("lay -", "2")
        self.say("stock", "0 5 0 0", "1 0 0 5 5", "2 -")
        self.say("serve 2 by 0 1 2", "0 1:c", "1 0:c")
        self.say("stock", "2 -", "3 5", "4 5 5")
        self.say("total", "14")
        self.say("sums", "7 4 0 3")
        self.say("sell 4", "-")
        self.say("lay 0 0 0", "5")
        self.say("sell 5", "0:c")
        self.say("stock", "2 -", "3 5", "4 5 5", "6 0")

    def test_the_least_is_one(self):
        self.say("lay 5 0 0 5", "0")
        self.say("sell 0", "1:c")
        self.say("stock", "1 5", "2 5")
        self.say("sums", "4 2 0 2")

    def test_full(self):
        for number in range(40):
            self.say("lay 0 0 3", str(number))
        self.say("lay 0", "no full")
        self.say("lay -", "no full")
        self.no_line("lay", "lay ", "lay x", "lay -1", "lay " + words([0] * 201))
        self.say("sell 3", "0:c")
        self.say("lay 0", "no full")
        self.say("sell 40", "-")
        self.say("back", "ok")
        self.say("back", "ok")
        self.say("lay 0", "no full")
        self.say("back", "ok")
        self.say("lay 7", "39")

    def test_serve(self):
        self.say("table a 1 1 0 / b 2 5 0", "ok")
        self.say("lay 0 0 0", "0")
        self.say("lay 0 0", "1")
        self.say("lay 9", "2")
        self.say("serve 0 2 by 1 0", *self.served([0, 2], [0, 1], {0: [0, 0, 0], 1: [0, 0], 2: [9]}))

    def served(self, order, numbers, rolls):
        """What serve answers, looked at by hand: taken from the desk, then taken back."""
        table = [("a", 1, 1, 0), ("b", 2, 5, 0)]
        told = self.desk.say(f"serve {words(order)} by {words(numbers)}")
        self.say("back", "ok")
        cuttings = {int(line.split(" ", 1)[0]): read_cutting(line.split(" ", 1)[1]) for line in told}
        self.assertEqual(list(cuttings), sorted(cuttings))
        chosen = sorted(numbers)
        plan = [cuttings.get(number, []) for number in chosen]
        self.assertEqual(plan_left([rolls[number] for number in chosen], table, order, plan), [0, 0])
        self.assertEqual(len(told), fill([rolls[number] for number in chosen], table, order)[0])
        return told

    def test_orders_that_are_none(self):
        self.say("table a 1 1 0 / b 2 5 0", "ok")
        self.say("lay 0 0 0", "0")
        for order in ("", " ", "1", "1 1 1", "-", "-1 0", "0 -1", "1 -1", "x 1", "1  1", "01 1", "1 1 ", " 1 1", "1 by 1",
                      "9" * 21 + " 1", "1 +1", "0 0 0 0 0 0 0 0 0", "a 1 1 0"):
            self.no_line(f"serve {order} by 0", f"serve {order} by -", f"serve {order} by 99")
        self.say("serve 1 1 by 0", "0 " + show_cutting(fill([[0, 0, 0]], [("a", 1, 1, 0), ("b", 2, 5, 0)], [1, 1])[1][0]))

    def test_numbers_that_are_none(self):
        self.say("lay 0 0", "0")
        for numbers in ("", " ", "x", "0 0", "1 2 1", "5 6 7 6", "-1 -1", "0  1", "0 ", " 0", "01", "-0", "- 0", "0 by",
                        "by 0", "9" * 21, "0:c", "+0"):
            self.no_line("serve 1 by " + numbers, "serve 0 by " + numbers, "serve 999 by " + numbers)
        self.no_line("serve", "serve ", "serve 1", "serve 1 0", "serve by 0", "serve 1 by", "serve 1by 0", "serve 1 by0",
                     "serve by", "serve  by 0", "serve 1  by 0", "serve 1 BY 0", "serve 1 by 0 by 0", "serve 1 by by 0")
        self.say("stock", "0 0 0")
        self.say("serve 1 by 0", "0 0:c")

    def test_refusals_of_serve_in_their_order(self):
        self.say("lay " + words([0] * 41), "0")
        for number in range(1, 15):
            self.say("lay 0 0", str(number))
        self.no_line("serve -1 by 99", "serve 1 by 0 0", "serve 1 1 by 99")
        self.say("serve 999 by 99", "no roll")
        self.say("serve 1 by -1", "no roll")
        self.say("serve 1 by 0 15", "no roll")
        self.say("serve 1 by " + words(range(2, 16)), "no roll")
        self.say("serve 1 by " + words([10 ** 20 - 1]), "no roll")
        self.say("serve 1 by 0", "no big")
        self.say("serve 120 by 1", "no big")
        self.say("serve 0 by " + words(range(1, 14)), "no big")
        self.say("serve 99 by " + words(range(1, 14)), "no big")
        self.say("serve 119 by 1", "no short")
        self.say("serve 2 by 1", "no short")
        self.say("serve 1 by -", "no short")
        self.say("serve 12 by " + words(range(12, 0, -1)), *[f"{number} 0:c" for number in range(1, 13)])

    def test_an_order_of_nothing(self):
        self.say("lay 0 0", "0")
        self.say("serve 0 by 0")
        self.say("serve 0 by -")
        self.say("stock", "0 0 0")
        self.say("back", "ok")
        self.say("again")
        self.say("back", "ok")
        self.say("back", "ok")
        self.say("back", "ok")
        self.say("back", "no deed")
        self.say("again", "0")
        self.say("again")
        self.say("again")
        self.say("again", "no deed")

    def test_table_without_kinds(self):
        self.say("table -", "ok")
        self.say("lay 0", "0")
        self.say("serve - by 0")
        self.say("serve - by -")
        self.say("serve - by 7", "no roll")
        self.no_line("serve 0 by 0", "serve by 0", "serve  by 0")
        self.say("sell 0", "-")

    def test_sell(self):
        self.say("sell 0", "no roll")
        self.say("lay 0 0 0 0 0", "0")
        for number in (1, -1, 99, 10 ** 20 - 1, 1 - 10 ** 20):
            self.say(f"sell {number}", "no roll")
        for number in NO_NUMBERS:
            self.no_line("sell " + number)
        self.no_line("sell", "sell 0 0", "sell 0 ", "sell  0")
        self.say("sell 0", "0:c 2:c")
        self.say("sell 0", "no roll")
        self.say("total", "14")

    def test_back_and_again(self):
        self.say("back", "no deed")
        self.say("again", "no deed")
        self.say("lay 5 0 0", "0")
        self.say("lay 0 0", "1")
        self.say("serve 2 by 1 0", "0 1:c", "1 0:c")
        self.say("sell 2", "-")
        for turn in range(2):
            for step in range(4):
                self.say("back", "ok")
            self.say("back", "no deed")
            self.say("stock")
            self.say("again", "0")
            self.say("again", "1")
            self.say("again", "0 1:c", "1 0:c")
            self.say("again", "-")
            self.say("again", "no deed")
            self.say("stock", "2 5")

    def test_again_behind_other_lines(self):
        self.say("lay 5 0 0", "0")
        self.say("sell 0", "1:c")
        self.say("back", "ok")
        for line in ("best 0 0", "stock", "total", "sums", "begin a", "take a 0", "close a", "drop a", "x", "lay x",
                     "sell 9", "serve 9 by 0", "serve 1 by 9", "serve 999 by 0", "table x", "back x", "again x"):
            self.desk.say(line)
        self.say("again", "1:c")
        self.say("stock", "1 5")
        self.say("again", "no deed")

    def test_a_new_deed_forgets_what_was_taken_back(self):
        for deed in ("lay 0", "sell 0", "serve 0 by 0", "serve 1 by 0"):
            self.say(CLASP, "ok")
            self.say("lay 0 0", "0")
            self.say("lay 3", "1")
            self.say("back", "ok")
            self.desk.say(deed)
            self.say("again", "no deed")
            self.say("back", "ok")
            self.say("stock", "0 0 0")

    def test_words_alone(self):
        for word in ("back", "again", "stock", "total", "sums"):
            self.no_line(word + " ", word + " 0", " " + word, word + " -", word + "  ", word.upper(), word + "s1")

    def test_stock_by_rising_numbers(self):
        for number in range(12):
            self.say("lay 0 0 5", str(number))
        self.say("sell 2", "0:c")
        self.say("sell 10", "0:c")
        right = [f"{number} 0 0 5" for number in range(12) if number not in (2, 10)] + ["12 5", "13 5"]
        self.say("stock", *right)


class TestLines(Case):
    def test_no_such_line(self):
        self.no_line("", " ", "  ", "x", "Best 0", "BEST 0", "best", "best0", "best:0", "help", "quit", "ok", "no", "no line",
                     "-", "0", "/", " best 0", "best  0", "best 0 ", "worth 0", "prices 0", "~", "say best 0", "renew -")

    def test_each_word_alone_and_with_a_blank(self):
        alone = ("back", "again", "stock", "total", "sums")
        for word in ALL_WORDS:
            if word not in alone:
                self.no_line(word)
            self.no_line(word + " ", word + "  ", word[:-1], word + "x", word + "x 0", word.upper() + " 0", "x" + word)

    def test_words_too_many(self):
        self.say("begin a", "ok")
        for line in ("begin b c", "close a a", "sure a 0", "settled a a", "told a -", "drop a a", "sell 0 1", "take a 0 a",
                     "back back", "again 1", "stock 0", "total 0", "sums 0"):
            self.no_line(line)
        self.say("drop a", "ok")

    def test_what_is_refused_changes_nothing(self):
        self.say("table " + show_table(TABLE), "ok")
        self.say("lay 0 0 9", "0")
        self.say("lay 9", "1")
        self.say("back", "ok")
        for name in "abcdefghijkl":
            self.say("begin " + name, "ok")
        self.say("take a 0 9", "0:a")
        self.say("close b", "-")
        before = self.all_of()
        refused = (
            ("xyz", "line"), ("table a", "line"), ("begin a", "name"), ("begin z", "room"), ("take z 0", "name"),
            ("take b 0", "closed"), ("close b", "closed"), ("drop z", "name"), ("all 0 0", "many"), ("parts 2 0", "parts"),
            ("loss 5 a 0", "fit"), ("serve 1 1 by 0", "line"), ("serve 9 9 9 by 0", "big"), ("serve 1 1 1 by 0", "short"),
            ("serve 0 0 0 by 5", "roll"), ("sell 5", "roll"), ("take a " + words([0] * 199), "long"),
        )
        for turn in range(2):
            for line, word in refused:
                self.say(line, "no " + word)
                self.assertEqual(self.all_of(), before)
        self.say("again", "1")
        self.say("again", "no deed")

    def test_two_desks_do_not_touch_one_another(self):
        other = Desk()
        self.say(CLASP, "ok")
        self.say("lay 0 0", "0")
        self.say("begin a", "ok")
        self.assertEqual(other.say("best 0 0"), ["0", "-", "0 0"])
        self.assertEqual(other.say("stock"), [])
        self.assertEqual(other.say("told a"), ["no name"])
        self.assertEqual(other.say("back"), ["no deed"])
        self.assertEqual(other.say("table a 1 1 0"), ["ok"])
        self.assertEqual(other.say("lay 5"), ["0"])
        self.say("stock", "0 0 0")
        self.say("sell 0", "0:c")
        self.say("back", "ok")
        self.assertEqual(other.say("again"), ["no deed"])
        self.say("again", "0:c")


class TestWhoseLists(Case):
    LINES = (
        CLASP, "best 0 0 5", "count 0", "all 9 0 0", "second 0 0", "loss 0 c 0 0", "free 0", "parts 1 0", "mend 1 5 0",
        "begin a", "take a 0 0 5", "sure a", "settled a", "told a", "close a", "lay 5 0 0", "lay 0 0 5", "stock",
        "serve 2 by 0 1", "back", "again", "back", "again", "sell 2", "back", "again", "total", "sums", "stock", "drop a",
        "serve 0 by -", "back", "again", "x", "sell 99", "again",
    )

    def test_each_told_list_is_a_new_one(self):
        spoilt, kept = Desk(), Desk()
        told = []
        for line in self.LINES:
            right = kept.say(line)
            told.append(spoilt.say(line))
            self.assertEqual(told[-1], right, line)
            told[-1].reverse()
            told[-1].append("spoilt")
        self.assertEqual(len({id(some) for some in told}), len(told))

    def test_later_lines_change_no_told_list(self):
        told = [(self.desk.say(line), line) for line in self.LINES]
        other = Desk()
        for some, line in told:
            self.assertEqual(some, other.say(line), line)

    def test_the_same_question_is_answered_alike(self):
        for line in self.LINES:
            self.desk.say(line)
            for question in ("best 0 0 5", "stock", "total", "sums", "sure a", "settled a", "told a", "free 0", "mend 1 5 0"):
                self.assertEqual(self.desk.say(question), self.desk.say(question))


class TestThePromise(unittest.TestCase):
    """Lines drawn the same each time, against what the functions tell."""

    def lines(self, seed, count):
        drawn = mixed(seed, 3 * count, list(range(997)))
        for step in range(count):
            one, two, three = drawn[3 * step:3 * step + 3]
            roll = words(mixed(two, three % 9, (0, 0, 0, 1, 3)))
            yield (
                f"lay {roll}", f"lay {roll}", f"sell {two % 12}", f"serve {two % 3} {three % 2} by {words([two % 9, 9 + three % 9])}",
                "back", "again", f"begin {'abcd'[two % 4]}", f"take {'abcd'[two % 4]} {roll}", f"close {'abcd'[two % 4]}",
                f"drop {'abcd'[two % 4]}", f"best {roll}", "stock",
            )[one % 12]

    def test_no_cell_is_lost_and_no_line_is_left(self):
        form = re.compile(r"ok|no (line|name|closed|big|short|full|roll|deed)|-|(-?\d+|\d+:[a-z]+)( (-|-?\d+|\d+:[a-z]+))*")
        for seed in range(12):
            desk = Desk()
            desk.say("table a 1 2 0 / b 3 9 1")
            for line in self.lines(seed, 250):
                for told in desk.say(line):
                    self.assertIsNotNone(form.fullmatch(told), (line, told))
                laid, cut, scrapped, standing = read_numbers(desk.say("sums")[0])
                self.assertEqual(laid, cut + scrapped + standing)
                self.assertEqual(standing, sum(len(read_numbers(row.split(" ", 1)[1])) for row in desk.say("stock")))
                self.assertEqual(scrapped, 0)

    def test_back_to_the_first_and_again_to_the_last(self):
        for seed in range(6):
            desk = Desk()
            desk.say("table a 1 2 0 / b 3 9 1")
            told = []
            for line in self.lines(seed, 150):
                if line.split(" ")[0] in ("lay", "sell", "serve"):
                    answer = desk.say(line)
                    if not (answer and answer[0].startswith("no ")):
                        told.append(answer)
            last = desk.say("stock"), desk.say("total"), desk.say("sums")
            for deed in told:
                self.assertEqual(desk.say("back"), ["ok"])
            self.assertEqual(desk.say("back"), ["no deed"])
            self.assertEqual(desk.say("sums"), ["0 0 0 0"])
            for deed in told:
                self.assertEqual(desk.say("again"), deed)
            self.assertEqual(desk.say("again"), ["no deed"])
            self.assertEqual((desk.say("stock"), desk.say("total"), desk.say("sums")), last)

    def test_served_with_the_fewest(self):
        table = [("a", 1, 2, 0), ("b", 3, 9, 1)]
        for seed in range(30):
            desk = Desk()
            desk.say("table " + show_table(table))
            rolls = [mixed(seed * 4 + at, 2 + (seed + at) % 5, (0, 0, 0, 1, 3)) for at in range(4)]
            for roll in rolls:
                desk.say("lay " + words(roll))
            order = mixed(seed, 2, (0, 1, 2, 3))
            told = desk.say(f"serve {words(order)} by 3 1 0 2")
            try:
                number = fill(rolls, table, order)[0]
            except Short:
                self.assertEqual(told, ["no short"])
            else:
                self.assertEqual(len(told), number)
                self.assertEqual(desk.say("total"), [str(2 * order[0] + 9 * order[1])])


if __name__ == "__main__":
    unittest.main()
