"""Promises 30 to 32, what promise 5 says of a stock, and promises 2, 3 and 4 for the class Stock."""

import copy
import unittest

from selvage.best import best
from selvage.errors import CutError, Full, NoDeed, NoRoll, Short, TooBig
from selvage.filling import fill
from selvage.judge import amount
from selvage.orders import plan_left
from selvage.stock import Stock
from trying import FULL, LONG, TABLES, TOP, WIDE, lists_within, mixed, spoil, worth_of

TABLE = [("b", 2, 5, 1), ("a", 1, 2, 0), ("abc", 3, 9, 4)]
SINGLE = [("a", 1, 2, 0)]
CLASP = [("c", 2, 7, 0)]


class Case(unittest.TestCase):
    def refused(self, error, ask, *arguments):
        with self.assertRaises(error) as caught:
            ask(*arguments)
        self.assertIs(type(caught.exception), error)

    def stands(self, stock, right):
        self.assertEqual(shown(stock)[0], right)


def made(table, least, rolls):
    stock = Stock(table, least)
    for roll in rolls:
        stock.lay(roll)
    return stock


def shown(stock):
    """All that questions tell of a stock."""
    return ({number: stock.roll(number) for number in stock.numbers()}, stock.total(), stock.sums())


class Model:
    """A stock in the document's words; what is cut is told to it, since the plan is left open."""

    def __init__(self, table, least):
        self.table, self.least = table, least
        self.rolls, self.number, self.worth, self.laid, self.cut, self.scrapped = {}, 0, 0, 0, 0, 0

    def add(self, roll):
        self.rolls[self.number] = list(roll)
        self.number += 1

    def lay(self, roll):
        self.add(roll)
        self.laid += len(roll)

    def cut_all(self, cuttings):
        widths = {kind[0]: kind[1] for kind in self.table}
        for number, cutting in sorted(cuttings):
            roll = self.rolls.pop(number)
            taken = {place + step for place, name in cutting for step in range(widths[name])}
            self.worth += worth_of(self.table, cutting)
            self.cut += len(taken)
            stretch = []
            for place in range(len(roll) + 1):
                if place < len(roll) and place not in taken:
                    stretch.append(roll[place])
                elif stretch:
                    if len(stretch) >= self.least:
                        self.add(stretch)
                    else:
                        self.scrapped += len(stretch)
                    stretch = []

    def shown(self):
        standing = sum(len(roll) for roll in self.rolls.values())
        return (self.rolls, self.worth, (self.laid, self.cut, self.scrapped, standing))


class TestLay(Case):
    def test_numbers_from_nought_on(self):
        stock = Stock(TABLE, 1)
        self.assertEqual(stock.numbers(), [])
        for number in range(40):
            self.assertEqual(stock.lay([number, 0]), number)
            self.assertEqual(stock.numbers(), list(range(number + 1)))
            self.assertEqual(stock.roll(number), [number, 0])

    def test_any_roll(self):
        stock = made(TABLE, 1, [[], [TOP], LONG, []])
        self.stands(stock, {0: [], 1: [TOP], 2: LONG, 3: []})
        self.assertEqual(stock.sums(), (201, 0, 0, 201))

    def test_full_at_forty(self):
        stock = made(TABLE, 1, [[0]] * 39)
        self.assertEqual(stock.lay([]), 39)
        before = shown(stock)
        for roll in ([0], [], LONG):
            self.refused(Full, stock.lay, roll)
        self.assertEqual(shown(stock), before)

    def test_laid_again_as_soon_as_fewer_stand(self):
        stock = made(SINGLE, 1, [[0]] * 40)
        self.refused(Full, stock.lay, [0])
        stock.sell(7)
        self.assertEqual(stock.lay([5]), 40)
        self.refused(Full, stock.lay, [0])
        stock.back()
        self.assertEqual(stock.lay([6]), 40)
        self.assertEqual(stock.numbers(), [number for number in range(41) if number != 7])

    def test_sales_make_more_than_forty_stand(self):
        stock = made(SINGLE, 1, [[1, 0, 1, 0, 1]] * 40)
        stock.sell(3)
        self.assertEqual(len(stock.numbers()), 42)
        self.assertEqual(stock.numbers()[-3:], [40, 41, 42])
        self.refused(Full, stock.lay, [0])
        stock.sell(39)
        self.assertEqual(len(stock.numbers()), 44)
        self.refused(Full, stock.lay, [])
        stock.back()
        stock.back()
        self.refused(Full, stock.lay, [])
        stock.back()
        self.assertEqual(stock.lay([]), 39)

    def test_just_thirty_nine_and_forty_behind_sales(self):
        stock = made(SINGLE, 3, [[0, 0]] * 40)
        stock.sell(0)
        self.assertEqual(len(stock.numbers()), 39)
        self.assertEqual(stock.lay([1, 0, 1]), 40)
        self.refused(Full, stock.lay, [0])
        stock.sell(40)
        self.assertEqual(stock.lay([0]), 41)

    def test_taken_as_soon_as_it_is_good(self):
        stock = made(SINGLE, 1, [[0]] * 40)
        roll = [4]
        self.refused(Full, stock.lay, roll)
        stock.serve([2], [0, 1])
        self.assertEqual(stock.lay(roll), 40)
        self.assertEqual(stock.lay(roll), 41)
        self.refused(Full, stock.lay, roll)


class TestRoll(Case):
    def test_no_roll(self):
        stock = Stock(SINGLE, 1)
        for number in (0, 1, -1, WIDE, -WIDE):
            self.refused(NoRoll, stock.roll, number)
            self.refused(NoRoll, stock.sell, number)
            self.refused(NoRoll, stock.serve, [0], [number])
        stock.lay([0, 1, 0])
        stock.lay([1])
        for number in (-1, -2, 2, 3, 40, TOP, WIDE, -WIDE):
            self.refused(NoRoll, stock.roll, number)
            self.refused(NoRoll, stock.sell, number)
            self.refused(NoRoll, stock.serve, [0], [number])
            self.refused(NoRoll, stock.serve, [0], [0, number, 1])
        self.stands(stock, {0: [0, 1, 0], 1: [1]})

    def test_cut_already(self):
        stock = made(SINGLE, 1, [[0, 1], [0]])
        stock.sell(0)
        self.refused(NoRoll, stock.roll, 0)
        self.refused(NoRoll, stock.sell, 0)
        self.refused(NoRoll, stock.serve, [0], [0])
        self.assertEqual(stock.roll(2), [1])
        stock.serve([1], [1])
        self.refused(NoRoll, stock.roll, 1)
        self.stands(stock, {2: [1]})

    def test_number_of_a_laid_roll_that_was_taken_back(self):
        stock = made(SINGLE, 1, [[0], [1]])
        stock.back()
        self.refused(NoRoll, stock.roll, 1)
        self.assertEqual(stock.lay([3]), 1)
        self.assertEqual(stock.roll(1), [3])


class TestServe(Case):
    def check_served(self, stock, model, table, order, numbers):
        rolls = [stock.roll(number) for number in sorted(numbers)]
        right = fill(rolls, table, order)[0]
        told = stock.serve(order, numbers)
        self.assertIs(type(told), list)
        self.assertEqual(len(told), right)
        used = [number for number, cutting in told]
        self.assertEqual(used, sorted(set(used)))
        self.assertLessEqual(set(used), set(numbers))
        for entry in told:
            self.assertEqual((type(entry), len(entry), type(entry[1])), (tuple, 2, list))
            self.assertNotEqual(entry[1], [])
        plan = [dict(told).get(number, []) for number in sorted(numbers)]
        self.assertEqual(plan_left(rolls, table, order, plan), [0] * len(table))
        model.cut_all(told)
        self.assertEqual(shown(stock), model.shown())

    def test_ordinary(self):
        stock, model = Stock(TABLE, 1), Model(TABLE, 1)
        for roll in ([0, 0, 0], [0, 0], [3, 0, 1, 0]):
            stock.lay(roll)
            model.lay(roll)
        self.check_served(stock, model, TABLE, [1, 1, 0], [0, 1, 2])
        self.check_served(stock, model, TABLE, [1, 0, 0], stock.numbers())

    def test_one_way_alone(self):
        stock = made(CLASP, 1, [[0, 0, 5], [5, 0, 0], [5, 5]])
        self.assertEqual(stock.serve([2], [0, 1, 2]), [(0, [(0, "c")]), (1, [(1, "c")])])
        self.stands(stock, {2: [5, 5], 3: [5], 4: [5]})

    def test_from_these_rolls_alone(self):
        stock = made(CLASP, 1, [[0, 0], [0, 0], [0, 0, 0, 0]])
        self.assertEqual(stock.serve([2], [0, 1]), [(0, [(0, "c")]), (1, [(0, "c")])])
        self.refused(Short, stock.serve, [3], [2])
        self.assertEqual(stock.serve([2], [2]), [(2, [(0, "c"), (2, "c")])])
        self.assertEqual(stock.numbers(), [])

    def test_the_fewest(self):
        stock = made(CLASP, 1, [[0, 0], [0, 0], [0, 0, 0, 0]])
        self.assertEqual(stock.serve([2], [0, 1, 2]), [(2, [(0, "c"), (2, "c")])])
        self.assertEqual(stock.numbers(), [0, 1])

    def test_rising_numbers_however_they_are_ordered(self):
        rolls = [[5, 0, 0], [0, 0, 5], [0, 0], [6, 6]]
        right = [(0, [(1, "c")]), (1, [(0, "c")]), (2, [(0, "c")])]
        for numbers in ([0, 1, 2], [2, 1, 0], [1, 2, 0, 3], [3, 0, 2, 1], [2, 0, 3, 1]):
            stock = made(CLASP, 1, rolls)
            here = list(numbers)
            self.assertEqual(stock.serve([3], here), right)
            self.assertEqual(here, numbers)
            self.stands(stock, {3: [6, 6], 4: [5], 5: [5]})

    def test_great_numbers_go_by_size(self):
        stock = Stock(SINGLE, 1)
        for number in range(30):
            stock.lay([0])
        for number in range(28):
            stock.sell(number)
        for number in range(12):
            stock.lay([0])
        numbers = [41, 29, 30, 28, 35]
        self.assertEqual([entry[0] for entry in stock.serve([5], numbers)], [28, 29, 30, 35, 41])

    def test_no_roll_ahead_of_too_big_ahead_of_short(self):
        stock = made(SINGLE, 1, [[0] * 41] + [[0]] * 20)
        self.refused(NoRoll, stock.serve, [WIDE], [0, 99])
        self.refused(NoRoll, stock.serve, [1], list(range(13)) + [21])
        self.refused(NoRoll, stock.serve, [1], [99] + list(range(20)))
        self.refused(TooBig, stock.serve, [999], [1])
        self.refused(TooBig, stock.serve, [120], [1])
        self.refused(Short, stock.serve, [119], [1])
        self.refused(TooBig, stock.serve, [1], [0])
        self.refused(TooBig, stock.serve, [1], [1, 0])
        self.refused(TooBig, stock.serve, [60], [0, 1])
        self.refused(Short, stock.serve, [2], [1])
        self.refused(Short, stock.serve, [1], [])
        self.assertEqual(stock.sums(), (61, 0, 0, 61))

    def test_twelve_and_thirteen_numbers(self):
        stock = made(SINGLE, 1, [[0]] * 14)
        self.refused(TooBig, stock.serve, [1], list(range(13)))
        self.refused(TooBig, stock.serve, [0], list(range(13)))
        self.refused(TooBig, stock.serve, [14], list(range(14)))
        self.refused(Short, stock.serve, [13], list(range(12)))
        told = stock.serve([12], list(range(1, 13)))
        self.assertEqual(told, [(number, [(0, "a")]) for number in range(1, 13)])
        self.assertEqual(stock.numbers(), [0, 13])

    def test_no_numbers(self):
        stock = made(TABLE, 1, [[0]])
        self.assertEqual(stock.serve([0, 0, 0], []), [])
        self.refused(Short, stock.serve, [0, 1, 0], [])
        self.refused(TooBig, stock.serve, [0, 120, 0], [])
        self.assertEqual(Stock([], 1).serve([], []), [])

    def test_an_order_of_nothing_is_a_deed(self):
        stock = made(TABLE, 1, [[0, 0]])
        before = shown(stock)
        self.assertEqual(stock.serve([0, 0, 0], [0]), [])
        self.assertEqual(shown(stock), before)
        self.assertIsNone(stock.back())
        self.assertEqual(stock.numbers(), [0])
        self.assertEqual(stock.again(), [])
        stock.back()
        stock.back()
        self.assertEqual(stock.numbers(), [])
        self.assertEqual(stock.again(), 0)
        stock.serve([0, 0, 0], [])
        self.refused(NoDeed, stock.again)

    def test_against_fill(self):
        served = 0
        for table in TABLES:
            for seed in range(8):
                least = 1 + seed % 3
                stock, model = Stock(table, least), Model(table, least)
                for at in range(5):
                    roll = mixed(seed * 7 + at, 2 + (seed + at) % 5, (0, 0, 0, 1, 3))
                    stock.lay(roll)
                    model.lay(roll)
                for step in range(4):
                    numbers = list(dict.fromkeys(mixed(seed + step, 9, stock.numbers()))) if stock.numbers() else []
                    order = mixed(seed * 3 + step, len(table), (0, 0, 1, 1, 2))
                    try:
                        fill([stock.roll(number) for number in numbers], table, order)
                    except Short:
                        self.refused(Short, stock.serve, order, numbers)
                        self.assertEqual(shown(stock), model.shown())
                    else:
                        self.check_served(stock, model, table, order, numbers)
                        served += 1
        self.assertGreater(served, 100)


class TestSell(Case):
    def test_ordinary(self):
        stock = made(TABLE, 1, [[0, 1, 3, 0], [9, 0, 9]])
        self.assertEqual(stock.sell(0), best([0, 1, 3, 0], TABLE)[1])
        self.assertEqual(stock.total(), 11)
        self.assertEqual(stock.sell(1), [(1, "a")])
        self.assertEqual(stock.total(), 13)
        self.stands(stock, {2: [9], 3: [9]})

    def test_no_piece(self):
        stock = made(TABLE, 1, [[9, 9], [], [0]])
        before = shown(stock)
        for number in (0, 1):
            self.assertEqual(stock.sell(number), [])
            self.assertEqual(shown(stock), before)
        self.assertIsNone(stock.back())
        self.assertIsNone(stock.back())
        self.assertEqual(shown(stock), before)
        self.assertEqual(stock.again(), [])
        self.assertEqual(stock.again(), [])
        self.refused(NoDeed, stock.again)
        for step in range(5):
            stock.back()
        self.assertEqual(stock.numbers(), [])
        self.refused(NoDeed, stock.back)

    def test_no_piece_forgets_what_was_taken_back(self):
        stock = made(TABLE, 1, [[9], [0]])
        stock.back()
        self.assertEqual(stock.sell(0), [])
        self.refused(NoDeed, stock.again)

    def test_table_without_kinds(self):
        stock = made([], 1, [[0] * 200])
        self.assertEqual(stock.sell(0), [])
        self.assertEqual((stock.total(), stock.sums()), (0, (200, 0, 0, 200)))

    def test_long_rolls(self):
        stock = made(FULL, 1, [LONG])
        worth, cutting = best(LONG, FULL)
        self.assertEqual(stock.sell(0), cutting)
        self.assertEqual(stock.total(), worth)
        self.assertEqual(stock.sums()[0], 200)
        model = Model(FULL, 1)
        model.lay(LONG)
        model.cut_all([(0, cutting)])
        self.assertEqual(shown(stock), model.shown())


class TestRests(Case):
    def sold(self, table, least, roll, rests, scrapped):
        stock = made(table, least, [[7], roll])
        stock.sell(1)
        right = {0: [7]}
        right.update({number + 2: rest for number, rest in enumerate(rests)})
        self.stands(stock, right)
        self.assertEqual(stock.sums()[2], scrapped)
        laid, cut, gone, standing = stock.sums()
        self.assertEqual(laid, cut + gone + standing)

    def test_at_both_ends_and_between(self):
        roll = [1, 2, 0, 0, 3, 4, 5, 0, 0, 6]
        self.sold(CLASP, 1, roll, [[1, 2], [3, 4, 5], [6]], 0)
        self.sold(CLASP, 2, roll, [[1, 2], [3, 4, 5]], 1)
        self.sold(CLASP, 3, roll, [[3, 4, 5]], 3)
        self.sold(CLASP, 4, roll, [], 6)
        self.sold(CLASP, 200, roll, [], 6)

    def test_none(self):
        self.sold(CLASP, 1, [0, 0, 0, 0], [], 0)
        self.sold(CLASP, 1, [0, 0, 9, 0, 0], [[9]], 0)
        self.sold(CLASP, 1, [9, 0, 0], [[9]], 0)
        self.sold(CLASP, 1, [0, 0, 9], [[9]], 0)
        self.sold(CLASP, 2, [0, 0, 9], [], 1)

    def test_no_rest_without_cells(self):
        for least in (1, 0):
            self.sold(CLASP, least, [0, 0, 0, 0, 9], [[9]], 0)

    def test_as_long_as_they_go(self):
        self.sold(CLASP, 5, [0, 0, 0, 9, 0, 9, 0], [[0, 9, 0, 9, 0]], 0)
        self.sold(CLASP, 6, [0, 0, 0, 9, 0, 9, 0], [], 5)

    def test_of_the_longest_roll(self):
        self.sold([("a", 1, 1, 0)], 199, [0] + [1] * 199, [[1] * 199], 0)
        self.sold([("a", 1, 1, 0)], 200, [0] + [1] * 199, [], 199)
        self.sold([("a", 1, 1, 0)], 1, [0, 1] * 100, [[1]] * 100, 0)
        self.sold([("a", 1, 1, 0)], 2, [0, 1] * 100, [], 100)

    def test_numbers_by_rising_rolls_then_by_places(self):
        stock = made(CLASP, 1, [[1, 0, 0, 2], [3, 0, 0, 4], [5, 0, 0]])
        stock.serve([3], [2, 0, 1])
        self.stands(stock, {3: [1], 4: [2], 5: [3], 6: [4], 7: [5]})
        self.assertEqual(stock.lay([8]), 8)

    def test_rests_of_rests(self):
        stock = made(SINGLE + [("w", 4, 99, 0)], 1, [[0, 0, 0, 0, 1, 0, 1, 0]])
        self.assertEqual(stock.sell(0), [(0, "w"), (5, "a"), (7, "a")])
        self.stands(stock, {1: [1], 2: [1]})
        stock = made([("b", 2, 9, 0), ("a", 1, 1, 1)], 1, [[1, 0, 0, 1, 1]])
        self.assertEqual(stock.serve([1, 0], [0]), [(0, [(1, "b")])])
        self.stands(stock, {1: [1], 2: [1, 1]})
        self.assertEqual(stock.sell(2), [(0, "a"), (1, "a")])
        self.assertEqual(stock.serve([0, 1], [1]), [(1, [(0, "a")])])
        self.assertEqual((stock.total(), stock.sums()), (12, (5, 5, 0, 0)))


class TestTotalAndSums(Case):
    def test_at_first(self):
        stock = Stock(TABLE, 1)
        self.assertEqual(stock.total(), 0)
        self.assertEqual(stock.sums(), (0, 0, 0, 0))
        self.assertIs(type(stock.sums()), tuple)

    def test_behind_each_deed(self):
        stock = Stock(CLASP, 2)
        stock.lay([0, 0, 5])
        self.assertEqual((stock.total(), stock.sums()), (0, (3, 0, 0, 3)))
        stock.lay([5, 5, 0, 0, 0])
        self.assertEqual((stock.total(), stock.sums()), (0, (8, 0, 0, 8)))
        stock.sell(0)
        self.assertEqual((stock.total(), stock.sums()), (7, (8, 2, 1, 5)))
        stock.sell(1)
        self.assertEqual((stock.total(), stock.sums()), (14, (8, 4, 2, 2)))
        stock.back()
        self.assertEqual((stock.total(), stock.sums()), (7, (8, 2, 1, 5)))
        stock.back()
        self.assertEqual((stock.total(), stock.sums()), (0, (8, 0, 0, 8)))
        stock.back()
        self.assertEqual((stock.total(), stock.sums()), (0, (3, 0, 0, 3)))
        stock.again()
        stock.again()
        stock.again()
        self.assertEqual((stock.total(), stock.sums()), (14, (8, 4, 2, 2)))

    def test_great_worths(self):
        stock = made([("a", 1, TOP, 0)], 1, [[0] * 200] * 40)
        for number in range(40):
            stock.sell(number)
        self.assertEqual((stock.total(), stock.sums()), (8000 * TOP, (8000, 8000, 0, 0)))


class TestBackAndAgain(Case):
    def test_nothing_to_take_back_or_to_do_again(self):
        stock = Stock(TABLE, 1)
        self.refused(NoDeed, stock.back)
        self.refused(NoDeed, stock.again)
        stock.lay([0])
        self.refused(NoDeed, stock.again)
        self.assertIsNone(stock.back())
        self.refused(NoDeed, stock.back)
        self.assertEqual(stock.again(), 0)
        self.refused(NoDeed, stock.again)

    def each(self):
        stock = made(CLASP, 1, [[0, 0, 5], [5, 0, 0], [0, 0, 0]])
        yield stock, lambda: stock.lay([4, 4])
        yield stock, lambda: stock.serve([2], [0, 1])
        yield stock, lambda: stock.sell(2)
        yield stock, lambda: stock.serve([0], [3])
        yield stock, lambda: stock.sell(3)

    def test_each_kind_of_deed(self):
        for stock, deed in self.each():
            ahead = shown(stock)
            told = deed()
            behind = shown(stock)
            for step in range(3):
                self.assertIsNone(stock.back())
                self.assertEqual(shown(stock), ahead)
                self.assertEqual(stock.again(), told)
                self.assertEqual(shown(stock), behind)
            self.refused(NoDeed, stock.again)

    def test_the_numbers_are_free_again(self):
        stock = made(CLASP, 1, [[5, 0, 0, 5], [0]])
        stock.sell(0)
        self.assertEqual(stock.numbers(), [1, 2, 3])
        stock.back()
        self.assertEqual(stock.lay([8]), 2)
        self.assertEqual(stock.sell(0), [(1, "c")])
        self.stands(stock, {1: [0], 2: [8], 3: [5], 4: [5]})

    def test_a_new_deed_forgets_what_was_taken_back(self):
        for new in range(3):
            stock = made(CLASP, 1, [[0, 0], [0, 0], [0]])
            stock.back()
            stock.back()
            if new == 0:
                stock.lay([3])
            elif new == 1:
                stock.serve([1], [0])
            else:
                stock.sell(0)
            self.refused(NoDeed, stock.again)
            stock.back()
            stock.again()
            self.refused(NoDeed, stock.again)

    def test_refused_deeds_and_questions_forget_nothing(self):
        stock = made(CLASP, 1, [[0, 0], [5]])
        told = stock.serve([1], [0, 1])
        behind = shown(stock)
        stock.back()
        self.refused(Short, stock.serve, [9], [0])
        self.refused(TooBig, stock.serve, [999], [0])
        self.refused(NoRoll, stock.serve, [1], [7])
        self.refused(NoRoll, stock.sell, 7)
        self.refused(NoRoll, stock.roll, 7)
        shown(stock)
        self.assertEqual(stock.again(), told)
        self.assertEqual(shown(stock), behind)
        self.refused(NoDeed, stock.again)
        stock.back()
        self.assertEqual(stock.numbers(), [0, 1])

    def test_a_refused_lay_forgets_nothing(self):
        stock = made(SINGLE, 1, [[5, 0]] * 40)
        stock.sell(0)
        stock.back()
        self.refused(Full, stock.lay, [0])
        self.assertEqual(stock.again(), [(1, "a")])

    def test_refused_deeds_are_no_deeds(self):
        stock = made(CLASP, 1, [[0, 0]])
        self.refused(Short, stock.serve, [9], [0])
        self.refused(NoRoll, stock.sell, 5)
        stock.back()
        self.assertEqual(stock.numbers(), [])
        self.refused(NoDeed, stock.back)

    def test_back_and_again_are_no_deeds(self):
        stock = made(CLASP, 1, [[0, 0], [5]])
        stock.back()
        stock.again()
        stock.back()
        stock.back()
        self.refused(NoDeed, stock.back)
        self.assertEqual([stock.again(), stock.again()], [0, 1])

    def test_many_deeds_to_the_first_and_to_the_last(self):
        stock = Stock(TABLE, 2)
        states, told = [shown(stock)], []
        for step in range(120):
            numbers = stock.numbers()
            if len(numbers) < 5 or step % 3 == 0 and len(numbers) < 40:
                told.append(stock.lay(mixed(step, 5 + step % 9, (0, 0, 0, 1, 3, 9))))
            elif step % 3 == 1:
                told.append(stock.sell(numbers[step % len(numbers)]))
            else:
                try:
                    told.append(stock.serve(mixed(step, 3, (0, 1, 1, 2)), numbers[:12]))
                except Short:
                    continue
            states.append(shown(stock))
        self.assertGreater(len(told), 90)
        for turn in range(2):
            for state in reversed(states[:-1]):
                self.assertIsNone(stock.back())
                self.assertEqual(shown(stock), state)
            self.refused(NoDeed, stock.back)
            for answer, state in zip(told, states[1:]):
                self.assertEqual(stock.again(), answer)
                self.assertEqual(shown(stock), state)
            self.refused(NoDeed, stock.again)

    def test_two_stocks_do_not_touch_one_another(self):
        one, other = Stock(SINGLE, 1), Stock(SINGLE, 1)
        one.lay([0, 5])
        self.assertEqual(other.numbers(), [])
        self.refused(NoDeed, other.back)
        self.assertEqual(other.lay([0]), 0)
        one.sell(0)
        self.stands(other, {0: [0]})
        self.assertEqual(other.total(), 0)
        one.back()
        self.refused(NoDeed, other.again)
        other.back()
        self.stands(one, {0: [0, 5]})
        self.assertEqual(one.again(), [(0, "a")])
        self.assertEqual(other.again(), 0)


class TestWhoseLists(Case):
    def test_what_is_handed_in(self):
        table, roll, order, numbers = list(TABLE), [0, 0, 1], [1, 0, 0], [1, 0]
        stock = Stock(table, 1)
        table.clear()
        stock.lay(roll)
        stock.lay(roll)
        self.assertEqual(roll, [0, 0, 1])
        spoil(roll)
        self.stands(stock, {0: [0, 0, 1], 1: [0, 0, 1]})
        told = stock.serve(order, numbers)
        self.assertEqual((order, numbers), ([1, 0, 0], [1, 0]))
        kept, behind = copy.deepcopy(told), shown(stock)
        spoil(order)
        spoil(numbers)
        self.assertEqual(shown(stock), behind)
        stock.back()
        self.assertEqual(stock.again(), kept)
        self.assertEqual(shown(stock), behind)

    def test_a_table_that_is_changed_behind_the_call(self):
        table = [("a", 1, 2, 0)]
        stock = made(table, 1, [[0, 9], [0]])
        table[0] = ("z", 1, 50, 9)
        table.append(("y", 1, 60, 9))
        self.assertEqual(stock.sell(0), [(0, "a")])
        self.assertEqual(stock.serve([1], [1]), [(1, [(0, "a")])])
        self.assertEqual(stock.total(), 4)

    def test_what_is_told(self):
        stock = made(CLASP, 1, [[5, 0, 0, 5, 5], [0, 0, 9], [0]])
        deeds = (lambda: stock.sell(0), lambda: stock.serve([1], [1, 2]))
        for deed in deeds:
            told = deed()
            kept, behind = copy.deepcopy(told), shown(stock)
            spoil(told)
            self.assertEqual(shown(stock), behind)
            stock.back()
            first = stock.again()
            self.assertEqual(first, kept)
            spoil(first)
            stock.back()
            second = stock.again()
            self.assertEqual(second, kept)
            self.assertEqual(shown(stock), behind)
            ids = [id(some) for some in lists_within(told) + lists_within(first) + lists_within(second)]
            self.assertEqual(len(ids), len(set(ids)))

    def test_what_questions_tell(self):
        stock = made(CLASP, 1, [[5, 0, 0], [0, 0]])
        before = copy.deepcopy(shown(stock))
        for number in stock.numbers():
            spoil(stock.roll(number))
        spoil(stock.numbers())
        self.assertEqual(shown(stock), before)
        early = stock.roll(0), stock.numbers()
        stock.sell(0)
        stock.back()
        stock.back()
        self.assertEqual(early, ([5, 0, 0], [0, 1]))

    def test_the_same_question_is_answered_alike(self):
        stock = made(TABLE, 1, [[5, 0, 0], [0, 0]])
        stock.sell(1)
        for step in range(3):
            self.assertEqual(shown(stock), ({0: [5, 0, 0]}, 5, (5, 2, 0, 3)))


class TestThePromise(Case):
    def deeds(self, table, least, seed, count):
        """Deeds drawn the same each time, looked at behind each one."""
        stock, model = Stock(table, least), Model(table, least)
        history, taken_back = [], []
        drawn = mixed(seed, 4 * count, list(range(60)))
        for step in range(count):
            choice = drawn[4 * step:4 * step + 4]
            ahead = copy.deepcopy(model)
            sort = ("lay", "lay", "serve", "sell", "back", "again")[choice[0] % 6]
            try:
                if sort == "lay":
                    roll = mixed(choice[1], choice[2] % 14, (0, 0, 0, 1, 3, 9))
                    told = stock.lay(roll)
                    self.assertEqual(told, model.number)
                    model.lay(roll)
                elif sort == "serve":
                    some = list(dict.fromkeys(mixed(choice[1], choice[2] % 5, stock.numbers() or [0])))
                    order = mixed(choice[3], len(table), (0, 0, 1, 2))
                    told = stock.serve(order, some)
                    model.cut_all(told)
                elif sort == "sell":
                    number = (stock.numbers() or [0])[choice[1] % max(1, len(stock.numbers()))]
                    roll = stock.roll(number)
                    told = stock.sell(number)
                    self.assertIsNotNone(amount(roll, table, told))
                    model.cut_all([(number, told)] if told else [])
                elif sort == "back":
                    self.assertIsNone(stock.back())
                    taken_back.append((model, history[-1][1]))
                    model = history.pop()[0]
                else:
                    told = stock.again()
                    history.append((model, taken_back[-1][1]))
                    self.assertEqual(told, taken_back[-1][1])
                    model = taken_back.pop()[0]
            except CutError as refusal:
                if isinstance(refusal, NoDeed):
                    self.assertEqual(taken_back if sort == "again" else history, [])
                model = ahead
            else:
                if sort in ("lay", "serve", "sell"):
                    history.append((ahead, told))
                    taken_back = []
            self.assertEqual(shown(stock), model.shown())
            laid, cut, scrapped, standing = stock.sums()
            self.assertEqual(laid, cut + scrapped + standing)

    def test_no_cell_is_lost(self):
        for place, table in enumerate(TABLES):
            for least in (1, 2, 4):
                self.deeds(table, least, place * 7 + least, 200)


if __name__ == "__main__":
    unittest.main()
