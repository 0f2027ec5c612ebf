"""The words of a line that the desk is asked by: what they mean, or the refusal."""

from midwindow.cells.texts import cell_read, is_cell, is_number, read_rows
from midwindow.errors import NoAsk, NoField
from midwindow.ranks.plain import without_holes

MOST_NUMBER = 1000000000
MOST_LENGTH = 12
MOST_SIDE = 6
MOST_SHARE = 1000
MOST_TIMES = 40
PLAIN_RULES = ("there", "near", "turned", "round")


def are_within(numbers, least, most):
    return all([least <= number <= most for number in numbers])


def numbers_asked(words, how_many):
    if len(words) != how_many:
        raise NoAsk("too many words, or too few")
    if not all([is_number(word) for word in words]):
        raise NoAsk("a word is no number")
    return tuple([int(word) for word in words])


def cell_asked(word):
    if not is_cell(word):
        raise NoAsk("a word is no cell")
    cell = cell_read(word)
    if not are_within(without_holes((cell,)), -MOST_NUMBER, MOST_NUMBER):
        raise NoAsk("a cell's number is too far from 0")
    return cell


def window_asked(words):
    sides = numbers_asked(words, 4)
    if not are_within(sides, 0, MOST_SIDE):
        raise NoAsk("a window has no such side")
    return sides


def rule_asked(words):
    if len(words) == 1 and words[0] in PLAIN_RULES:
        return words[0]
    if len(words) == 2 and words[0] == "told":
        return ("told", cell_asked(words[1]))
    raise NoAsk("there is no such edge rule")


def share_asked(words):
    share = numbers_asked(words, 2)
    if not 1 <= share[1] <= MOST_SHARE or not 0 <= share[0] <= share[1]:
        raise NoAsk("there is no such share")
    return share


def times_asked(words):
    times = numbers_asked(words, 1)
    if not are_within(times, 0, MOST_TIMES):
        raise NoAsk("so many times are not asked for")
    return times[0]


def field_asked(text):
    # Parted here, not turned into lines: a line end in the text parts no rows, but makes its row a wrong one.
    field = read_rows(text.split(";"))
    if len(field) > MOST_LENGTH or len(field[0]) > MOST_LENGTH:
        raise NoField(0)
    for row in field:
        if not are_within(without_holes(row), -MOST_NUMBER, MOST_NUMBER):
            # The document names row 0 for this, whichever row it is.
            raise NoField(0)
    return field
