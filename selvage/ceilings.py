"""Ceilings: how much can be cut out of an order at most, and papers by which anyone sees it."""

from selvage.best import heights
from selvage.floors import pointed
from selvage.orders import together
from selvage.prices import all_show, prices


def rebated(table, rebates):
    return pointed(table, [kind[2] - rebate for kind, rebate in zip(table, rebates)])


def ceiling_by(rolls, table, order, rebates):
    kinds = rebated(table, rebates)
    return sum([heights(roll, kinds)[-1] for roll in rolls]) + together(order, rebates)


def rebates_to_try(table, order):
    worths = [kind[2] for kind in table]
    least = [0 if number > 0 else worth for number, worth in zip(order, worths)]
    tries = [least]
    for place, number in enumerate(order):
        if number > 0:
            tries.append(least[:place] + [worths[place]] + least[place + 1:])
    tries.append(worths)
    return tries


def ceiling(rolls, table, order):
    tries = rebates_to_try(table, order)
    rebates = min(tries, key=lambda some: ceiling_by(rolls, table, order, some))
    kinds = rebated(table, rebates)
    lists = [prices(roll, kinds) for roll in rolls]
    return (ceiling_by(rolls, table, order, rebates), (rebates, lists))


def shows_ceiling(rolls, table, order, number, paper):
    rebates = paper[0]
    if len(rebates) != len(table) or any([rebate < 0 for rebate in rebates]):
        return False
    if not all_show(rolls, rebated(table, rebates), paper[1]):
        return False
    return sum([sum(some) for some in paper[1]]) + together(order, rebates) <= number
