"""Promise 5 over the whole program, with drawn tables, rolls, orders and deeds."""

import unittest

from selvage.best import best, heights
from selvage.ceilings import ceiling, shows_ceiling
from selvage.counts import all_best, best_count, cutting_count
from selvage.desk import Desk
from selvage.errors import NoRoll, Short, TooMany
from selvage.feed import Feed
from selvage.filling import fill, leavings, richest
from selvage.floors import floor, shows_floor
from selvage.greedy import greedy
from selvage.judge import amount
from selvage.mending import mended_best
from selvage.orders import checked_order, plan_left
from selvage.parting import free_places, parted
from selvage.prices import prices, shows
from selvage.rolls import changed, checked_roll, joined, turned
from selvage.standing import loss, mays, musts, runner_up
from selvage.stock import Stock
from selvage.tables import checked_table
from selvage.texts import read_cutting, read_numbers, read_table, show_cutting, show_numbers, show_table
from trying import best_tried, cuttings, greatest, mixed, plans_tried, told_in_words, worth_of

NAMES = ("a", "zz", "c", "bolt", "abcdefgh", "e", "f", "g")


def drawn_table(seed):
    count = mixed(seed, 1, (0, 1, 2, 2, 3, 3, 4))[0]
    numbers = mixed(seed + 300, 3 * count, list(range(60)))
    # Half of the tables have small worths, so that many cuttings are worth alike.
    worths = 7 if seed % 2 else 3
    return checked_table([
        (NAMES[place], 1 + numbers[3 * place] % 4, 1 + numbers[3 * place + 1] % worths, numbers[3 * place + 2] % 5)
        for place in range(count)
    ])


def drawn_roll(seed, longest):
    length = mixed(seed, 1, list(range(longest + 1)))[0]
    return checked_roll(mixed(seed + 700, length, (0, 0, 0, 1, 2, 6)))


def drawn(count, longest=7):
    for seed in range(count):
        yield drawn_roll(seed, longest), drawn_table(seed * 3 + 1)


def drawn_orders(count):
    for seed in range(count):
        table = drawn_table(seed * 5 + 2)
        rolls = [drawn_roll(seed * 11 + at, 5) for at in range(seed % 5)]
        yield rolls, table, checked_order(table, mixed(seed + 90, len(table), (0, 0, 1, 1, 2)))


class TestRolls(unittest.TestCase):
    def test_greatest_worth_cutting_and_prices(self):
        for roll, table in drawn(300):
            worth, cutting = best(roll, table)
            self.assertEqual(worth, greatest(roll, table))
            self.assertEqual(cutting, told_in_words(roll, table))
            self.assertEqual(amount(roll, table, cutting), worth)
            self.assertIs(shows(roll, table, worth, prices(roll, table)), True)
            self.assertEqual(best(turned(roll), table)[0], worth)

    def test_prices_show_no_less_than_any_cutting(self):
        for roll, table in drawn(60, 5):
            for cutting in cuttings(roll, table):
                self.assertLessEqual(amount(roll, table, cutting), sum(prices(roll, table)))

    def test_best_cuttings_counted_and_listed(self):
        for roll, table in drawn(300):
            right = best_tried(roll, table)
            self.assertEqual(best_count(roll, table), len(right))
            self.assertEqual(cutting_count(roll, table), len(cuttings(roll, table)))
            if len(right) <= 200:
                self.assertEqual(all_best(roll, table, 200), right)
                self.assertEqual(all_best(roll, table, len(right)), right)
            with self.assertRaises(TooMany):
                all_best(roll, table, len(right) - 1)

    def test_how_the_pieces_stand(self):
        for roll, table in drawn(150, 6):
            listed = [set(cutting) for cutting in best_tried(roll, table)]
            self.assertEqual(set(musts(roll, table)), set.intersection(*listed))
            self.assertEqual(set(mays(roll, table)), set.union(*listed))
            for piece in mays(roll, table):
                self.assertEqual(loss(roll, table, piece), 0)
            worths = sorted({worth_of(table, cutting) for cutting in cuttings(roll, table)})
            self.assertEqual(runner_up(roll, table), worths[-2] if len(worths) > 1 else None)

    def test_parted_and_mended(self):
        for roll, table in drawn(150):
            for place in free_places(roll, table)[1:-1]:
                parts = parted(roll, [place])
                self.assertEqual(joined(parts), roll)
                self.assertEqual(sum(best(part, table)[0] for part in parts), best(roll, table)[0])
            worth, cells, cutting = mended_best(roll, table, 2)
            mended = roll
            for cell in cells:
                mended = changed(mended, cell, 0)
            self.assertEqual(amount(mended, table, cutting), worth)
            self.assertGreaterEqual(worth, best(roll, table)[0])

    def test_what_is_certain_begins_what_is_told(self):
        for seed, (roll, table) in enumerate(drawn(120, 8)):
            feed = Feed(table)
            certain = []
            for weight in roll:
                certain.extend(feed.take(weight))
                self.assertEqual(feed.sure(), certain)
                for tail in range(6):
                    whole = feed.cells() + mixed(seed * 6 + tail, tail * 2, (0, 0, 0, 1, 2, 6))
                    cutting = best(whole, table)[1]
                    self.assertEqual(cutting[:len(certain)], certain)
                    for place, name in cutting[len(certain):]:
                        self.assertGreaterEqual(place, feed.settled())
                    least, most = feed.between(tail * 2)
                    self.assertTrue(least <= heights(whole, table)[-1] <= most)
            self.assertEqual(certain + feed.close(), best(roll, table)[1])


class TestOrders(unittest.TestCase):
    def test_fewest_rolls_and_greatest_worth_between_their_bounds(self):
        for rolls, table, order in drawn_orders(400):
            found = plans_tried(rolls, table, order)
            right = sorted({left for used, left in found})
            self.assertEqual(leavings(rolls, table, order), [list(left) for left in right])
            low, low_paper = floor(rolls, table, order)
            high, high_paper = ceiling(rolls, table, order)
            self.assertIs(shows_floor(rolls, table, order, low, low_paper), True)
            self.assertIs(shows_ceiling(rolls, table, order, high, high_paper), True)
            filling = [used for used, left in found if not any(left)]
            if filling:
                number, plan = fill(rolls, table, order)
                self.assertEqual(number, min(filling))
                self.assertEqual(plan_left(rolls, table, order, plan), [0] * len(table))
                self.assertLessEqual(low, number)
            else:
                with self.assertRaises(Short):
                    fill(rolls, table, order)
            worth, plan = richest(rolls, table, order)
            worths = [worth_of(table, cutting) for cutting in plan]
            self.assertEqual(sum(worths), worth)
            self.assertIsNotNone(plan_left(rolls, table, order, plan))
            self.assertLessEqual(worth, high)
            quick = greedy(rolls, table, order)
            self.assertIsNotNone(plan_left(rolls, table, order, quick))
            self.assertLessEqual(sum(worth_of(table, cutting) for cutting in quick), worth)


class TestStocks(unittest.TestCase):
    def test_no_cell_is_lost(self):
        for seed in range(40):
            table = drawn_table(seed)
            stock = Stock(table, 1 + seed % 4)
            states = [stock.sums()]
            for step, choice in enumerate(mixed(seed, 60, list(range(90)))):
                try:
                    if choice % 3 == 0:
                        stock.lay(drawn_roll(choice + step, 12))
                    elif choice % 3 == 1:
                        stock.sell(choice % 17)
                    else:
                        stock.serve(mixed(choice, len(table), (0, 1, 2)), stock.numbers()[:3])
                except (NoRoll, Short):
                    continue
                states.append(stock.sums())
            for laid, cut, scrapped, standing in states:
                self.assertEqual(laid, cut + scrapped + standing)
            for state in reversed(states):
                self.assertEqual(stock.sums(), state)
                if state is not states[0]:
                    stock.back()


class TestLines(unittest.TestCase):
    def test_what_is_shown_is_read_back(self):
        for roll, table in drawn(200):
            self.assertEqual(read_numbers(show_numbers(roll)), roll)
            self.assertEqual(read_table(show_table(table)), table)
            cutting = best(roll, table)[1]
            self.assertEqual(read_cutting(show_cutting(cutting)), cutting)

    def test_the_desk_answers_as_the_functions(self):
        desk = Desk()
        for roll, table in drawn(200):
            self.assertEqual(desk.say("table " + show_table(table)), ["ok"])
            worth, cutting, told = desk.say("best " + show_numbers(roll))
            self.assertEqual((int(worth), read_cutting(cutting)), best(roll, table))
            self.assertIs(shows(roll, table, int(worth), read_numbers(told)), True)
            self.assertEqual(desk.say("count " + show_numbers(roll)), [str(best_count(roll, table))])
            self.assertEqual(desk.say("lay " + show_numbers(roll)), ["0"])
            self.assertEqual(desk.say("sell 0"), [cutting])
            self.assertEqual(desk.say("total"), [worth])


if __name__ == "__main__":
    unittest.main()
