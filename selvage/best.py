"""The greatest worth of a cutting, and the one cutting that is told of those that have it."""

from selvage.places import fits
from selvage.rolls import turned


def ending(roll, table, end):
    return [kind for kind in table if fits(roll, kind, end - kind[1])]


def next_top(roll, table, tops):
    end = len(tops)
    worths = [tops[end - kind[1]] + kind[2] for kind in ending(roll, table, end)]
    return max([tops[-1]] + worths)


def heights(roll, table):
    tops = [0]
    while len(tops) <= len(roll):
        tops.append(next_top(roll, table, tops))
    return tops


def tails(roll, table):
    # A roll turned about is worth as much, so the worths of the rests are heights, too.
    return list(reversed(heights(turned(roll), table)))


def last_kind(roll, table, tops, end):
    if tops[end] == tops[end - 1]:
        return None
    for kind in ending(roll, table, end):
        if tops[end - kind[1]] + kind[2] == tops[end]:
            return kind
    return None


def told_cutting(roll, table, tops, end):
    pieces = []
    while end > 0:
        kind = last_kind(roll, table, tops, end)
        if kind is None:
            end -= 1
        else:
            end -= kind[1]
            pieces.append((end, kind[0]))
    return list(reversed(pieces))


def best(roll, table):
    tops = heights(roll, table)
    return (tops[-1], told_cutting(roll, table, tops, len(roll)))
