"""A desk: one table, a stock and feeds of it, all spoken to in lines."""

from selvage.asking import answer_lines, is_question, read_roll
from selvage.deeds import Deeds
from selvage.errors import (
    Closed, Full, NoDeed, NoFit, NoLine, NoParting, NoRoll, NotAnOrder, NotARoll, Short, TooBig, TooLong, TooMany,
)
from selvage.feed import Feed
from selvage.orders import checked_order
from selvage.rolls import MOST_CELLS
from selvage.stock import Stock
from selvage.texts import read_name, read_number, read_numbers, read_table, show_cutting, show_numbers

MOST_FEEDS = 12
OF_FEEDS = ("close", "sure", "settled", "told", "drop")


def take_all(feed, roll):
    # Looked at ahead of the first cell: where one is refused none is to be taken.
    if len(roll) > 0 and feed.closed():
        raise Closed("nothing comes any more")
    if len(feed.cells()) + len(roll) > MOST_CELLS:
        raise TooLong(f"there would be more than {MOST_CELLS} cells")
    pieces = []
    for weight in roll:
        pieces.extend(feed.take(weight))
    return pieces


class Desk:
    def __init__(self):
        self.renew([])

    def renew(self, table):
        self.kinds = table
        self.stock = Stock(table, 1)
        # The stock tells again what a deed told, but not whether it was a serve or a sell.
        self.answers = Deeds()
        self.feeds = {}

    def say(self, line):
        try:
            return self.answer(line)
        except (NoLine, NotARoll, NotAnOrder):
            return ["no line"]
        except Closed:
            return ["no closed"]
        except TooLong:
            return ["no long"]
        except NoFit:
            return ["no fit"]
        except TooMany:
            return ["no many"]
        except NoParting:
            return ["no parts"]
        except TooBig:
            return ["no big"]
        except Short:
            return ["no short"]
        except Full:
            return ["no full"]
        except NoRoll:
            return ["no roll"]
        except NoDeed:
            return ["no deed"]

    def answer(self, line):
        parts = line.partition(" ")
        word = parts[0]
        if parts[1] == "":
            return self.answer_alone(word)
        if is_question(word):
            return answer_lines(word, self.kinds, parts[2])
        if word in OF_FEEDS:
            return self.ask_feed(word, read_name(parts[2]))
        return self.answer_with(word, parts[2])

    def answer_alone(self, word):
        if word == "back":
            return self.take_back()
        if word == "again":
            return self.do_again()
        if word == "stock":
            return self.stock_lines()
        if word == "total":
            return [str(self.stock.total())]
        if word == "sums":
            return [show_numbers(list(self.stock.sums()))]
        raise NoLine(f"no such line: {word!r}")

    def answer_with(self, word, rest):
        if word == "table":
            self.renew(read_table(rest))
            return ["ok"]
        if word == "begin":
            return self.begin_feed(read_name(rest))
        if word == "take":
            return self.take_cells(rest)
        if word == "lay":
            return self.enter([str(self.stock.lay(read_roll(rest)))])
        if word == "serve":
            return self.serve_order(rest)
        if word == "sell":
            return self.enter([show_cutting(self.stock.sell(read_number(rest)))])
        raise NoLine(f"no such line: {word!r}")

    def begin_feed(self, name):
        if name in self.feeds:
            return ["no name"]
        if len(self.feeds) >= MOST_FEEDS:
            return ["no room"]
        self.feeds[name] = Feed(self.kinds)
        return ["ok"]

    def take_cells(self, rest):
        parts = rest.partition(" ")
        name = read_name(parts[0])
        roll = read_roll(parts[2])
        if name not in self.feeds:
            return ["no name"]
        return [show_cutting(take_all(self.feeds[name], roll))]

    def ask_feed(self, word, name):
        if name not in self.feeds:
            return ["no name"]
        feed = self.feeds[name]
        if word == "drop":
            self.feeds.pop(name)
            return ["ok"]
        if word == "close":
            return [show_cutting(feed.close())]
        if word == "sure":
            return [show_cutting(feed.sure())]
        if word == "settled":
            return [str(feed.settled())]
        return [show_cutting(feed.cutting())]

    def serve_order(self, rest):
        parts = rest.partition(" by ")
        order = checked_order(self.kinds, read_numbers(parts[0]))
        numbers = read_numbers(parts[2])
        if len(set(numbers)) != len(numbers):
            raise NoLine("two of the numbers are the same")
        served = self.stock.serve(order, numbers)
        lines = []
        for number, cutting in served:
            shown = show_cutting(cutting)
            lines.append(f"{number} {shown}")
        return self.enter(lines)

    def enter(self, lines):
        self.answers.add(list(lines))
        return lines

    def take_back(self):
        self.stock.back()
        self.answers.back()
        return ["ok"]

    def do_again(self):
        self.stock.again()
        return list(self.answers.again())

    def stock_lines(self):
        lines = []
        for number in self.stock.numbers():
            shown = show_numbers(self.stock.roll(number))
            lines.append(f"{number} {shown}")
        return lines
