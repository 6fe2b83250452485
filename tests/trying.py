"""What the tests share: cuttings found by trying, rolls and tables, and whose lists are whose."""

import copy
import functools
import itertools

from selvage.errors import CutError

TOP = 10 ** 18
WIDE = 10 ** 60 - 1

TABLES = (
    [],
    [("a", 1, 1, 0)],
    [("b", 2, 5, 1), ("a", 1, 2, 0), ("abc", 3, 9, 4)],
    [("a", 1, 2, 0), ("b", 1, 2, 0)],
    [("b", 1, 2, 0), ("a", 1, 2, 1)],
    [("a", 2, 4, 1), ("b", 1, 2, 0), ("c", 3, 6, 0)],
    [("c", 3, 6, 0), ("b", 1, 2, 0), ("a", 2, 4, 1)],
    [("x", 2, 3, 3), ("y", 2, 3, 1), ("z", 4, 6, 2)],
    [("w", 3, 7, 2), ("v", 2, 7, 0)],
    [("p", 5, 1, 9)],
    [("t", 2, TOP, TOP - 1), ("s", 1, TOP // 2, 1)],
)
FULL = [
    ("h", 3, 31, 2), ("g", 5, 52, 1), ("f", 7, 70, 3), ("e", 11, 113, 0),
    ("d", 13, 131, 6), ("c", 17, 171, 5), ("b", 40, 410, 9), ("a", 100, 1001, 30),
]


def mixed(seed, count, some):
    """Count things out of some, as if thrown together, the same ones each time."""
    state = seed * 7919 + 17
    things = []
    for step in range(count):
        state = (state * 6364136223846793005 + 1442695040888963407) % 2 ** 64
        things.append(some[(state >> 33) % len(some)])
    return things


LONG = mixed(5, 200, (0, 0, 0, 1, 0, 2, 0, 0, 7))


def small_rolls(longest, weights=(0, 1, 3)):
    for length in range(longest + 1):
        for cells in itertools.product(weights, repeat=length):
            yield list(cells)


def small_cases(longest=4):
    for table in TABLES:
        for roll in small_rolls(longest):
            yield roll, table
        for seed in range(6):
            yield mixed(seed, 6 + seed % 3, (0, 0, 1, 3)), table


@functools.lru_cache(maxsize=None)
def tried(cells, kinds, begin):
    found = [()]
    for place in range(begin, len(cells)):
        for name, width, worth, allowed in kinds:
            end = place + width
            if end <= len(cells) and sum(cells[place:end]) <= allowed:
                found.extend(((place, name),) + rest for rest in tried(cells, kinds, end))
    return tuple(found)


def cuttings(roll, table):
    """All cuttings, found by trying each piece at each place."""
    return [list(cutting) for cutting in tried(tuple(roll), tuple(table), 0)]


def worth_of(table, cutting):
    worths = {kind[0]: kind[2] for kind in table}
    return sum(worths[name] for place, name in cutting)


def greatest(roll, table):
    return max(worth_of(table, cutting) for cutting in cuttings(roll, table))


def best_tried(roll, table):
    top = greatest(roll, table)
    return sorted(cutting for cutting in cuttings(roll, table) if worth_of(table, cutting) == top)


def told_in_words(roll, table):
    """The cutting that promise 12 tells, word by word, over worths found by trying."""
    if not roll:
        return []
    top = greatest(roll, table)
    if greatest(roll[:-1], table) == top:
        return told_in_words(roll[:-1], table)
    for name, width, worth, allowed in table:
        begin = len(roll) - width
        if begin >= 0 and sum(roll[begin:]) <= allowed and greatest(roll[:begin], table) + worth == top:
            return told_in_words(roll[:begin], table) + [(begin, name)]
    raise AssertionError("no last piece")


def cut_of(table, cutting):
    """How many pieces of each kind a cutting has, in the table's order."""
    cut = [name for place, name in cutting]
    return tuple(cut.count(kind[0]) for kind in table)


@functools.lru_cache(maxsize=None)
def ways_tried(cells, kinds):
    return sorted({cut_of(kinds, cutting) for cutting in tried(cells, kinds, 0)})


def plans_tried(rolls, table, order):
    """Each (used, left) of all plans that cut no more than the order wants, found by trying."""
    found = set()
    for plan in itertools.product(*[ways_tried(tuple(roll), tuple(table)) for roll in rolls]):
        left = tuple(wanted - sum(cuts) for wanted, *cuts in zip(order, *plan))
        if min(left, default=0) >= 0:
            found.add((sum(any(cuts) for cuts in plan), left))
    return found


def order_cases(count=48):
    """Few small rolls, a table and an order, drawn the same each time."""
    for table in TABLES:
        for seed in range(count):
            lengths = mixed(seed, seed % 6, (0, 2, 3, 4, 5, 6))
            rolls = [mixed(seed * 5 + at, length, (0, 0, 0, 1, 3)) for at, length in enumerate(lengths)]
            yield rolls, table, mixed(seed + 50, len(table), (0, 0, 1, 1, 2, 3))


def outcome(ask, arguments):
    try:
        return ask(*arguments)
    except CutError as refusal:
        return (type(refusal).__name__, vars(refusal))


def lists_within(value):
    found = [value] if isinstance(value, list) else []
    if isinstance(value, (list, tuple)):
        for part in value:
            found.extend(lists_within(part))
    return found


def spoil(value):
    for some in lists_within(value):
        some.reverse()
        some.append("spoilt")


def check_lists(case, ask, *arguments):
    """Promise 3 for one function: what is handed in stays, what is told is the asker's own."""
    here = copy.deepcopy(arguments)
    first = outcome(ask, here)
    case.assertEqual(here, arguments)
    second = outcome(ask, here)
    case.assertEqual(second, first)
    case.assertEqual(here, arguments)
    owners = [id(some) for some in lists_within(first) + lists_within(second) + lists_within(here)]
    case.assertEqual(len(owners), len(set(owners)))
    kept = copy.deepcopy(first)
    spoil(first)
    case.assertEqual(here, arguments)
    case.assertEqual(second, kept)
    third = outcome(ask, here)
    case.assertEqual(third, kept)
    spoil(here)
    case.assertEqual(third, kept)
    case.assertEqual(outcome(ask, copy.deepcopy(arguments)), kept)
