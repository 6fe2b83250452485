"""The desk's questions of a roll: what stands behind the first word is read, and answered in lines."""

from selvage.best import best
from selvage.counts import all_best, best_count
from selvage.errors import NoLine
from selvage.mending import mended_best
from selvage.parting import best_parting, free_places
from selvage.prices import prices
from selvage.rolls import checked_roll
from selvage.standing import loss, runner_up
from selvage.texts import read_name, read_number, read_numbers, show_cutting, show_numbers

MOST_TOLD = 200
SHORT_ROLL = 60


def read_roll(line):
    return checked_roll(read_numbers(line))


def read_short_roll(line):
    roll = read_roll(line)
    if len(roll) > SHORT_ROLL:
        raise NoLine(f"the roll has more than {SHORT_ROLL} cells")
    return roll


def best_lines(table, rest):
    roll = read_roll(rest)
    told = best(roll, table)
    return [str(told[0]), show_cutting(told[1]), show_numbers(prices(roll, table))]


def count_lines(table, rest):
    return [str(best_count(read_roll(rest), table))]


def all_lines(table, rest):
    parts = rest.partition(" ")
    most = read_number(parts[0])
    if not 0 <= most <= MOST_TOLD:
        raise NoLine(f"no number from 0 to {MOST_TOLD}: {most}")
    return [show_cutting(cutting) for cutting in all_best(read_roll(parts[2]), table, most)]


def second_lines(table, rest):
    worth = runner_up(read_roll(rest), table)
    return ["none" if worth is None else str(worth)]


def loss_lines(table, rest):
    words = rest.split(" ", 2)
    if len(words) != 3:
        raise NoLine("a word is missing")
    piece = (read_number(words[0]), read_name(words[1]))
    return [str(loss(read_roll(words[2]), table, piece))]


def free_lines(table, rest):
    return [show_numbers(free_places(read_roll(rest), table))]


def parts_lines(table, rest):
    parts = rest.partition(" ")
    number = read_number(parts[0])
    told = best_parting(read_short_roll(parts[2]), table, number)
    return [str(told[0]), show_numbers(told[1])]


def mend_lines(table, rest):
    parts = rest.partition(" ")
    most = read_number(parts[0])
    if most < 0:
        raise NoLine(f"no number from 0 on: {most}")
    told = mended_best(read_short_roll(parts[2]), table, most)
    return [str(told[0]), show_numbers(told[1]), show_cutting(told[2])]


QUESTIONS = {
    "best": best_lines,
    "count": count_lines,
    "all": all_lines,
    "second": second_lines,
    "loss": loss_lines,
    "free": free_lines,
    "parts": parts_lines,
    "mend": mend_lines,
}


def is_question(word):
    return word in QUESTIONS


def answer_lines(word, table, rest):
    ask = QUESTIONS[word]
    return ask(table, rest)
