"""Floors: how many rolls an order needs at least, and papers by which anyone sees it."""

from selvage.best import heights
from selvage.orders import together
from selvage.prices import all_show, prices
from selvage.tables import GREATEST_WORTH


def pointed(table, points):
    return [(kind[0], kind[1], point, kind[3]) for kind, point in zip(table, points) if point > 0]


def fewest(sums, needed):
    falling = sorted(sums, reverse=True)
    for number in range(len(sums) + 1):
        if sum(falling[:number]) >= needed:
            return number
    return len(sums) + 1


def floor_by(rolls, table, order, points):
    kinds = pointed(table, points)
    return fewest([heights(roll, kinds)[-1] for roll in rolls], together(order, points))


def only_wanted(order, some):
    return [one if number > 0 else 0 for number, one in zip(order, some)]


def points_to_try(table, order):
    alone = [[1 if other == place else 0 for other in range(len(table))] for place in range(len(table))]
    tries = [alone[place] for place, number in enumerate(order) if number > 0]
    tries.append(only_wanted(order, [kind[1] for kind in table]))
    tries.append(only_wanted(order, [kind[2] for kind in table]))
    tries.append(only_wanted(order, [1] * len(table)))
    return tries


def floor(rolls, table, order):
    tries = points_to_try(table, order)
    points = max(tries, key=lambda some: floor_by(rolls, table, order, some))
    kinds = pointed(table, points)
    lists = [prices(roll, kinds) for roll in rolls]
    return (floor_by(rolls, table, order, points), (points, lists))


def are_points(table, points):
    return len(points) == len(table) and all([0 <= point <= GREATEST_WORTH for point in points])


def shows_floor(rolls, table, order, number, paper):
    points = paper[0]
    if not are_points(table, points) or not all_show(rolls, pointed(table, points), paper[1]):
        return False
    sums = [sum(some) for some in paper[1]]
    return number <= fewest(sums, together(order, points))
