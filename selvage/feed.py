"""A roll that comes cell by cell, and the pieces that are certain already."""

from selvage.best import best, last_kind, next_top, told_cutting
from selvage.errors import Closed, TooLong
from selvage.rolls import MOST_CELLS, spoilt


def may_go_on(cells, kind, place):
    return place + kind[1] > len(cells) and spoilt(cells, place, len(cells)) <= kind[3]


def stop_ahead(cells, table, tops, place):
    kind = last_kind(cells, table, tops, place)
    return place - 1 if kind is None else place - kind[1]


def stops_ahead(cells, table, tops):
    # 0 has no stop but itself.
    return [0] + [stop_ahead(cells, table, tops, place) for place in range(1, len(tops))]


def common_stop(ahead, one, other):
    # The stops of a place are found by going ahead from it again and again, so the greatest
    # one that two places share is where the ways from both meet.
    while one != other:
        if one > other:
            one = ahead[one]
        else:
            other = ahead[other]
    return one


class Feed:
    def __init__(self, table):
        self.kinds = list(table)
        self.weights = []
        self.tops = [0]
        self.shut = False

    def take(self, weight):
        self.refuse_closed()
        if len(self.weights) >= MOST_CELLS:
            raise TooLong(f"{MOST_CELLS} cells are taken")
        told = len(self.sure())
        self.weights.append(weight)
        self.tops.append(next_top(self.weights, self.kinds, self.tops))
        return self.sure()[told:]

    def close(self):
        self.refuse_closed()
        told = len(self.sure())
        self.shut = True
        return self.sure()[told:]

    def refuse_closed(self):
        if self.shut:
            raise Closed("nothing comes any more")

    def closed(self):
        return self.shut

    def cells(self):
        return list(self.weights)

    def worth(self):
        return self.tops[-1]

    def cutting(self):
        return self.told_up_to(len(self.weights))

    def sure(self):
        return self.told_up_to(self.settled())

    def told_up_to(self, place):
        return told_cutting(self.weights, self.kinds, self.tops, place)

    def settled(self):
        ahead = stops_ahead(self.weights, self.kinds, self.tops)
        settled = len(self.weights)
        for place in self.open_starts():
            settled = common_stop(ahead, settled, place)
        return settled

    def open_starts(self):
        return [place for place in range(len(self.tops)) if self.is_open(place)]

    def is_open(self, place):
        if place == len(self.weights):
            return True
        if self.shut:
            return False
        kinds = [kind for kind in self.kinds if may_go_on(self.weights, kind, place)]
        return any([self.tops[place] + kind[2] > self.worth() for kind in kinds])

    def between(self, rest):
        # The least with cells that no kind allows, the greatest with clean ones.
        return (self.worth(), best(self.weights + [0] * rest, self.kinds)[0])
