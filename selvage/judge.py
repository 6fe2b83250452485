"""What a list of pieces is worth, where it is a cutting."""

from selvage.errors import NoKind
from selvage.places import fits
from selvage.tables import kind_of


def amount(roll, table, cutting):
    worth = 0
    free_from = 0
    for place, name in cutting:
        try:
            kind = kind_of(table, name)
        except NoKind:
            return None
        if place < free_from or not fits(roll, kind, place):
            return None
        worth += kind[2]
        free_from = place + kind[1]
    return worth
