"""Orders cut from rolls: what plans can leave of them, the fewest rolls, the greatest worth."""

from selvage.errors import Short, TooBig
from selvage.orders import states, together
from selvage.places import fits

LONGEST_ROLL = 40
MOST_STATES = 120


def refuse_big(rolls, order):
    if any([len(roll) > LONGEST_ROLL for roll in rolls]):
        raise TooBig(f"a roll has more than {LONGEST_ROLL} cells")
    if states(order) > MOST_STATES:
        raise TooBig(f"the order has more than {MOST_STATES} states")


def add_with_last(row, ahead, place, wanted, piece):
    for cut, cutting in ahead.items():
        if cut[place] < wanted:
            more = cut[:place] + (cut[place] + 1,) + cut[place + 1:]
            if more not in row:
                row[more] = cutting + [piece]


def cuts_of(roll, table, order):
    # One cutting for each choice of how many pieces of each kind are cut is enough: it is
    # all the same to the order where they lie. rows[j] has those of the first j cells.
    rows = [{tuple([0] * len(order)): []}]
    for end in range(1, len(roll) + 1):
        row = dict(rows[-1])
        for place, kind in enumerate(table):
            begin = end - kind[1]
            if fits(roll, kind, begin):
                add_with_last(row, rows[begin], place, order[place], (begin, kind[0]))
        rows.append(row)
    return rows[-1]


def with_roll(plans, cuts):
    more = {}
    for left, ahead in plans.items():
        for cut, cutting in cuts.items():
            rest = tuple([number - gone for number, gone in zip(left, cut)])
            if min(rest, default=0) < 0:
                continue
            used = ahead[0] + 1 if cutting else ahead[0]
            if rest not in more or used < more[rest][0]:
                more[rest] = (used, ahead[1] + [cutting])
    return more


def plans_by_left(rolls, table, order):
    # For each list that plans leave, a plan that uses the fewest rolls, and their number.
    refuse_big(rolls, order)
    plans = {tuple(order): (0, [])}
    for roll in rolls:
        plans = with_roll(plans, cuts_of(roll, table, order))
    return plans


def leavings(rolls, table, order):
    return sorted([list(left) for left in plans_by_left(rolls, table, order)])


def fill(rolls, table, order):
    plans = plans_by_left(rolls, table, order)
    nothing = tuple([0] * len(order))
    if nothing not in plans:
        raise Short("no plan fills the order")
    return plans[nothing]


def richest(rolls, table, order):
    plans = plans_by_left(rolls, table, order)
    worths = [kind[2] for kind in table]
    left = min(list(plans), key=lambda some: together(some, worths))
    return (together(order, worths) - together(left, worths), plans[left][1])
