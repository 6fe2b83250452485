"""Cells mended, so that more fits; mending a cell makes its weight 0."""

from selvage.rolls import spoilt


def cells_to_mend(roll, kind, place):
    # The heaviest first: no other choice of as few cells leaves less.
    cells = sorted(range(place, place + kind[1]), key=lambda cell: roll[cell], reverse=True)
    left = spoilt(roll, place, place + kind[1])
    mended = []
    for cell in cells:
        if left <= kind[3]:
            break
        left -= roll[cell]
        mended.append(cell)
    return mended


def mends(roll, kind, place):
    if place < 0 or place + kind[1] > len(roll):
        return None
    return len(cells_to_mend(roll, kind, place))


def ways_to_end(roll, table, end):
    kinds = [kind for kind in table if kind[1] <= end]
    return [(kind, end - kind[1], cells_to_mend(roll, kind, end - kind[1])) for kind in kinds]


def next_row(rows, ways):
    row = list(rows[-1])
    for kind, begin, cells in ways:
        for most in range(len(cells), len(row)):
            row[most] = max(row[most], rows[begin][most - len(cells)] + kind[2])
    return row


def last_way(rows, ways, end, most):
    if rows[end][most] == rows[end - 1][most]:
        return None
    for way in ways:
        left = most - len(way[2])
        if left >= 0 and rows[way[1]][left] + way[0][2] == rows[end][most]:
            return way
    return None


def last_ways(rows, ways, most):
    found = []
    left = most
    end = len(rows) - 1
    while end > 0:
        way = last_way(rows, ways[end], end, left)
        if way is None:
            end -= 1
        else:
            end = way[1]
            left -= len(way[2])
            found.append(way)
    return found


def mended_best(roll, table, most):
    bound = max(0, min(most, len(roll)))
    ways = [ways_to_end(roll, table, end) for end in range(len(roll) + 1)]
    # rows[j][m] is the greatest worth of the first j cells with at most m of them mended.
    rows = [[0] * (bound + 1)]
    for end in range(1, len(roll) + 1):
        rows.append(next_row(rows, ways[end]))
    cells = []
    pieces = []
    for kind, begin, mended in last_ways(rows, ways, bound):
        cells.extend(mended)
        pieces.append((begin, kind[0]))
    return (rows[-1][bound], sorted(cells), sorted(pieces))
