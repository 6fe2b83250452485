"""How the pieces stand: which ones all best cuttings have, or some, and what the others lose."""

from selvage.best import ending, heights, tails
from selvage.counts import best_counts
from selvage.errors import NoFit
from selvage.places import all_pieces, end_of
from selvage.rolls import turned
from selvage.tables import kind_of


def greatest_with(table, tops, rests, piece):
    return tops[piece[0]] + kind_of(table, piece[1])[2] + rests[end_of(table, piece)]


def mays(roll, table):
    tops = heights(roll, table)
    rests = tails(roll, table)
    return [piece for piece in all_pieces(roll, table) if greatest_with(table, tops, rests, piece) == tops[-1]]


def musts(roll, table):
    # A best cutting with a piece is a best one of the cells ahead of it, the piece, and a
    # best one of the cells behind it; where these are all best cuttings, all have the piece.
    ahead = best_counts(roll, table)
    behind = list(reversed(best_counts(turned(roll), table)))
    return [piece for piece in mays(roll, table) if ahead[piece[0]] * behind[end_of(table, piece)] == ahead[-1]]


def loss(roll, table, piece):
    if piece not in all_pieces(roll, table):
        raise NoFit(f"the piece {piece!r} does not fit")
    tops = heights(roll, table)
    return tops[-1] - greatest_with(table, tops, tails(roll, table), piece)


def runner_up(roll, table):
    # The two greatest worths of the cells up to each place are enough: what is third there
    # stays behind both, whatever is cut behind the place.
    greatest = [[0]]
    for end in range(1, len(roll) + 1):
        worths = list(greatest[-1])
        for kind in ending(roll, table, end):
            worths.extend([worth + kind[2] for worth in greatest[end - kind[1]]])
        greatest.append(sorted(set(worths))[-2:])
    if len(greatest[-1]) == 1:
        return None
    return greatest[-1][0]
