"""A stock of rolls, from which orders are served and whose rests are used again."""

from selvage.best import best
from selvage.deeds import Deeds
from selvage.errors import Full, NoRoll, TooBig
from selvage.filling import fill
from selvage.shelf import Shelf

MOST_STANDING = 40
MOST_SERVING = 12


def anew(told):
    if isinstance(told, list):
        return [anew(one) for one in told]
    if isinstance(told, tuple):
        return tuple([anew(one) for one in told])
    return told


class Stock:
    def __init__(self, table, least):
        self.kinds = list(table)
        self.least = least
        self.shelf = Shelf()
        self.deeds = Deeds()

    def lay(self, roll):
        if len(self.shelf.stands) >= MOST_STANDING:
            raise Full(f"{MOST_STANDING} rolls or more stand")
        shelf = self.shelf.another()
        shelf.laid += len(roll)
        return self.enter(shelf, shelf.put(roll))

    def serve(self, order, numbers):
        rising = sorted(numbers)
        rolls = [self.roll(number) for number in rising]
        if len(rolls) > MOST_SERVING:
            raise TooBig(f"there are more than {MOST_SERVING} rolls")
        plan = fill(rolls, self.kinds, order)[1]
        served = [(number, cutting) for number, cutting in zip(rising, plan) if len(cutting) > 0]
        return self.enter(self.shelf_after(served), served)

    def sell(self, number):
        cutting = best(self.roll(number), self.kinds)[1]
        sold = [(number, cutting)] if len(cutting) > 0 else []
        return self.enter(self.shelf_after(sold), cutting)

    def shelf_after(self, cuttings):
        shelf = self.shelf.another()
        for number, cutting in cuttings:
            shelf.cut_up(number, cutting, self.kinds, self.least)
        return shelf

    def enter(self, shelf, told):
        # With the shelf of each time kept, nothing is reckoned anew when a deed is taken back
        # or done again: so it is the same plan, and the same numbers.
        self.deeds.add((self.shelf, shelf, told))
        self.shelf = shelf
        return anew(told)

    def back(self):
        self.shelf = self.deeds.back()[0]

    def again(self):
        deed = self.deeds.again()
        self.shelf = deed[1]
        return anew(deed[2])

    def numbers(self):
        return sorted(list(self.shelf.stands))

    def roll(self, number):
        if number not in self.shelf.stands:
            raise NoRoll(f"no roll stands by the number {number}")
        return list(self.shelf.stands[number])

    def total(self):
        return self.shelf.earned

    def sums(self):
        shelf = self.shelf
        return (shelf.laid, shelf.cut, shelf.scrapped, shelf.standing())
