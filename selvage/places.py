"""Pieces; a piece is a tuple (place, name), cut from the place on as wide as its kind."""

from selvage.rolls import spoilt
from selvage.tables import kind_of


def fits(roll, kind, place):
    end = place + kind[1]
    if place < 0 or end > len(roll):
        return False
    return spoilt(roll, place, end) <= kind[3]


def all_pieces(roll, table):
    pieces = []
    for place in range(len(roll)):
        for kind in table:
            if fits(roll, kind, place):
                pieces.append((place, kind[0]))
    return pieces


def end_of(table, piece):
    return piece[0] + kind_of(table, piece[1])[1]
