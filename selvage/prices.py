"""Prices of a roll's cells, by which anyone sees that no cutting is worth more."""

from selvage.best import heights
from selvage.places import fits


def prices(roll, table):
    # The prices of the cells from i up to j make heights[j] - heights[i] together, and that
    # is no less than the worth of a piece from i up to j.
    tops = heights(roll, table)
    return [tops[cell + 1] - tops[cell] for cell in range(len(roll))]


def underpaid(roll, kind, prices, place):
    return fits(roll, kind, place) and sum(prices[place:place + kind[1]]) < kind[2]


def shows(roll, table, number, prices):
    if len(prices) != len(roll) or sum(prices) > number:
        return False
    if any([price < 0 for price in prices]):
        return False
    for kind in table:
        if any([underpaid(roll, kind, prices, place) for place in range(len(roll))]):
            return False
    return True


def all_show(rolls, table, lists):
    if len(lists) != len(rolls):
        return False
    return all([shows(roll, table, sum(some), some) for roll, some in zip(rolls, lists)])
