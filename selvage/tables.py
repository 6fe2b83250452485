"""Tables of kinds; a kind is a tuple (name, width, worth, allowed)."""

from selvage.errors import NoKind, NotATable

MOST_KINDS = 8
LONGEST_NAME = 8
GREATEST_WIDTH = 200
GREATEST_WORTH = 1_000_000_000_000_000_000
# One below the greatest weight of a cell, so that a cell of that weight fits no kind.
GREATEST_ALLOWED = 999_999_999_999_999_999


def is_name(text):
    return 1 <= len(text) <= LONGEST_NAME and all(["a" <= sign <= "z" for sign in text])


def is_kind(name, width, worth, allowed):
    if not is_name(name):
        return False
    if not 1 <= width <= GREATEST_WIDTH:
        return False
    return 1 <= worth <= GREATEST_WORTH and 0 <= allowed <= GREATEST_ALLOWED


def fault(table):
    earlier = {}
    for place, kind in enumerate(table):
        name = kind[0]
        if place >= MOST_KINDS or name in earlier:
            return place
        if not is_kind(name, kind[1], kind[2], kind[3]):
            return place
        earlier[name] = True
    return None


def checked_table(table):
    at = fault(table)
    if at is not None:
        raise NotATable(at)
    return list(table)


def kind_of(table, name):
    for kind in table:
        if kind[0] == name:
            return kind
    raise NoKind(f"no kind has the name {name!r}")


def names(table):
    return [kind[0] for kind in table]
