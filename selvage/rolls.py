"""Rolls; a roll is a list of cells, a cell the weight of its flaws."""

from selvage.errors import NoPlace, NotARoll, TooLong

MOST_CELLS = 200
GREATEST_WEIGHT = 1_000_000_000_000_000_000


def checked_roll(roll):
    for place, weight in enumerate(roll):
        if place >= MOST_CELLS or not 0 <= weight <= GREATEST_WEIGHT:
            raise NotARoll(place)
    return list(roll)


def spoilt(roll, begin, end):
    # A slice would take wrong places all the same: it counts from the end, or stops at it.
    if begin < 0 or end > len(roll) or begin > end:
        raise NoPlace(f"no cells from {begin} up to {end}")
    return sum(roll[begin:end])


def changed(roll, place, weight):
    if not 0 <= place < len(roll):
        raise NoPlace(f"no cell at the place {place}")
    cells = list(roll)
    cells[place] = weight
    return cells


def turned(roll):
    return list(reversed(roll))


def joined(rolls):
    cells = []
    for roll in rolls:
        cells.extend(roll)
    if len(cells) > MOST_CELLS:
        raise TooLong(f"joined, the rolls have more than {MOST_CELLS} cells")
    return cells
