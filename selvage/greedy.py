"""A plan that is quickly made: at each place the first kind that fits and is still wanted."""

from selvage.places import fits


def first_wanted(roll, table, left, place):
    for number, kind in enumerate(table):
        if left[number] > 0 and fits(roll, kind, place):
            return number
    return None


def greedy(rolls, table, order):
    left = list(order)
    plan = []
    for roll in rolls:
        cutting = []
        place = 0
        while place < len(roll):
            number = first_wanted(roll, table, left, place)
            if number is None:
                place += 1
            else:
                left[number] -= 1
                cutting.append((place, table[number][0]))
                place += table[number][1]
        plan.append(cutting)
    return plan
