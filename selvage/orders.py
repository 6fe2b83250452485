"""Orders, and what plans leave of them; an order is how many pieces of each kind are wanted."""

from selvage.errors import NotAnOrder
from selvage.judge import amount
from selvage.tables import names


def checked_order(table, order):
    for place, number in enumerate(order):
        if number < 0 or place >= len(table):
            raise NotAnOrder(place)
    if len(order) < len(table):
        raise NotAnOrder(len(order))
    return list(order)


def states(order):
    product = 1
    for number in order:
        product *= number + 1
    return product


def together(order, some):
    return sum([number * one for number, one in zip(order, some)])


def is_plan(rolls, table, plan):
    if len(plan) != len(rolls):
        return False
    return all([amount(roll, table, cutting) is not None for roll, cutting in zip(rolls, plan)])


def plan_left(rolls, table, order, plan):
    if not is_plan(rolls, table, plan):
        return None
    cut = []
    for cutting in plan:
        cut.extend([piece[1] for piece in cutting])
    left = [number - cut.count(name) for name, number in zip(names(table), order)]
    if any([number < 0 for number in left]):
        return None
    return left
