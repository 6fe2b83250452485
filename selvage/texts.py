"""Lists of numbers, tables and cuttings as lines, and lines read."""

from selvage.errors import NoLine
from selvage.tables import fault, is_name

NONE = "-"
MOST_FIGURES = 20


def show_numbers(some):
    if len(some) == 0:
        return NONE
    return " ".join([str(number) for number in some])


def show_table(table):
    if len(table) == 0:
        return NONE
    return " / ".join([f"{name} {width} {worth} {allowed}" for name, width, worth, allowed in table])


def show_cutting(cutting):
    if len(cutting) == 0:
        return NONE
    return " ".join([f"{place}:{name}" for place, name in cutting])


def is_number(word):
    figures = word[1:] if word.startswith("-") else word
    if not 1 <= len(figures) <= MOST_FIGURES:
        return False
    if any([not "0" <= figure <= "9" for figure in figures]):
        return False
    # Nought itself is the one number that begins with 0, and it has no - ahead.
    return word == "0" or figures[0] != "0"


def read_number(word):
    if not is_number(word):
        raise NoLine(f"no whole number: {word!r}")
    return int(word)


def read_name(word):
    if not is_name(word):
        raise NoLine(f"no name: {word!r}")
    return word


def read_numbers(line):
    if line == NONE:
        return []
    return [read_number(word) for word in line.split(" ")]


def read_kind(text):
    words = text.split(" ")
    if len(words) != 4:
        raise NoLine(f"no kind: {text!r}")
    return (read_name(words[0]), read_number(words[1]), read_number(words[2]), read_number(words[3]))


def read_table(line):
    if line == NONE:
        return []
    table = [read_kind(text) for text in line.split(" / ")]
    if fault(table) is not None:
        raise NoLine(f"no table: {line!r}")
    return table


def read_piece(word):
    parts = word.partition(":")
    return (read_number(parts[0]), read_name(parts[2]))


def read_cutting(line):
    if line == NONE:
        return []
    return [read_piece(word) for word in line.split(" ")]
