"""How many cuttings there are, how many have the greatest worth, and the list of these."""

from selvage.best import ending, heights
from selvage.errors import TooMany


def cutting_count(roll, table):
    numbers = [1]
    for end in range(1, len(roll) + 1):
        with_last = [numbers[end - kind[1]] for kind in ending(roll, table, end)]
        numbers.append(numbers[-1] + sum(with_last))
    return numbers[-1]


def best_steps(roll, table, tops, end):
    steps = []
    if tops[end - 1] == tops[end]:
        steps.append((end - 1, []))
    for kind in ending(roll, table, end):
        begin = end - kind[1]
        if tops[begin] + kind[2] == tops[end]:
            steps.append((begin, [(begin, kind[0])]))
    return steps


def best_counts(roll, table):
    tops = heights(roll, table)
    numbers = [1]
    for end in range(1, len(roll) + 1):
        steps = best_steps(roll, table, tops, end)
        numbers.append(sum([numbers[step[0]] for step in steps]))
    return numbers


def best_count(roll, table):
    return best_counts(roll, table)[-1]


def all_best(roll, table, most):
    if best_count(roll, table) > most:
        raise TooMany(most)
    tops = heights(roll, table)
    # From the end to the front: each list kept here is the end of some told cutting, so at
    # no place are there more of them than are told; from the front there could be.
    behind = [[] for top in tops]
    behind[-1].append([])
    for end in range(len(roll), 0, -1):
        for begin, pieces in best_steps(roll, table, tops, end):
            behind[begin].extend([pieces + later for later in behind[end]])
    return sorted(behind[0])
