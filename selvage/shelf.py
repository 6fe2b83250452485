"""What stands at one time, by numbers, and what has become of all cells that were laid."""

from selvage.judge import amount
from selvage.places import end_of


def rests(roll, table, cutting):
    stretches = []
    begin = 0
    for piece in cutting:
        stretches.append(roll[begin:piece[0]])
        begin = end_of(table, piece)
    stretches.append(roll[begin:])
    return [stretch for stretch in stretches if len(stretch) > 0]


class Shelf:
    def __init__(self):
        self.stands = {}
        self.given = 0
        self.laid = 0
        self.cut = 0
        self.scrapped = 0
        self.earned = 0

    def another(self):
        # The rolls themselves are never changed, so both may have the same ones.
        shelf = Shelf()
        shelf.stands = dict(self.stands)
        shelf.given = self.given
        shelf.laid = self.laid
        shelf.cut = self.cut
        shelf.scrapped = self.scrapped
        shelf.earned = self.earned
        return shelf

    def put(self, roll):
        number = self.given
        self.stands[number] = list(roll)
        self.given += 1
        return number

    def cut_up(self, number, cutting, table, least):
        roll = self.stands.pop(number)
        self.earned += amount(roll, table, cutting)
        self.cut += len(roll)
        for rest in rests(roll, table, cutting):
            self.cut -= len(rest)
            if len(rest) >= least:
                self.put(rest)
            else:
                self.scrapped += len(rest)

    def standing(self):
        return sum([len(roll) for roll in self.stands.values()])
