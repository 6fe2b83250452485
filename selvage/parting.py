"""Rolls parted at places, and what is lost by it."""

from selvage.best import heights, tails
from selvage.errors import NoParting, NoPlace


def parting_loss(roll, table, place):
    if not 0 <= place <= len(roll):
        raise NoPlace(f"no parting at the place {place}")
    tops = heights(roll, table)
    return tops[-1] - tops[place] - tails(roll, table)[place]


def free_places(roll, table):
    tops = heights(roll, table)
    rests = tails(roll, table)
    return [place for place in range(len(roll) + 1) if tops[place] + rests[place] == tops[-1]]


def parted(roll, places):
    rolls = []
    begin = 0
    for place in places:
        if not begin < place < len(roll):
            raise NoPlace(f"no parting at the place {place} behind {begin}")
        rolls.append(roll[begin:place])
        begin = place
    rolls.append(roll[begin:])
    return rolls


def sums_by_end(worths, rest, begin):
    return [worths[begin][end - begin] + rest[end] for end in range(begin + 1, len(rest))]


def first_places(worths, rows):
    # The earliest of the best ends each time: so Python orders no other right list ahead.
    places = []
    begin = 0
    for rest in reversed(rows[:-1]):
        sums = sums_by_end(worths, rest, begin)
        begin += 1 + sums.index(max(sums))
        places.append(begin)
    return places


def best_parting(roll, table, parts):
    # The roll without cells is still one part.
    if not 1 <= parts <= max(len(roll), 1):
        raise NoParting(f"no parting into {parts}")
    # worths[i][k] is the greatest worth of the k cells from i on; rows[p][i] is the greatest
    # sum of the cells from i on in p + 1 parts, as long as there are cells for so many.
    worths = [heights(roll[begin:], table) for begin in range(max(len(roll), 1))]
    rows = [[tops[-1] for tops in worths]]
    while len(rows) < parts:
        rest = rows[-1]
        rows.append([max(sums_by_end(worths, rest, begin)) for begin in range(len(rest) - 1)])
    return (rows[-1][0], first_places(worths, rows))
