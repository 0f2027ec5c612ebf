"""The desk: it is asked by a line and answers with a list of texts."""

from midwindow.cells.texts import cell_shown, row_shown
from midwindow.cells.windows import window_cells
from midwindow.errors import NoAsk
from midwindow.kept import field_with, refuse_outside
from midwindow.ranks.again import again
from midwindow.ranks.plain import filtered, told_of_cells
from midwindow.ranks.slid import slid
from midwindow.words import cell_asked, field_asked, numbers_asked, rule_asked, share_asked, times_asked, window_asked

FIELD_AHEAD = "field "
CHANGES = ("window", "edge", "share", "cell", "take")


def lines_of(field):
    return [row_shown(row) for row in field]


class Desk:
    def __init__(self):
        self.field = ((None,),)
        self.window = (0, 0, 0, 0)
        self.rule = "there"
        self.share = (1, 2)

    def ask(self, line):
        # All behind it is the field's text: blanks part cells there, not words of the line.
        if line.startswith(FIELD_AHEAD):
            self.field = field_asked(line[len(FIELD_AHEAD):])
            return []
        words = line.split(" ")
        if words[0] in CHANGES:
            self.change_by(words[0], words[1:])
            return []
        return self.lines_told(words[0], words[1:])

    def change_by(self, word, words):
        if word == "window":
            self.window = window_asked(words)
        elif word == "edge":
            self.rule = rule_asked(words)
        elif word == "share":
            self.share = share_asked(words)
        elif word == "cell":
            self.change_cell(words)
        else:
            numbers_asked(words, 0)
            self.field = self.filtered_field()

    def change_cell(self, words):
        place = numbers_asked(words[:-1], 2)
        # The cell is read ahead of any look at the place, as NoAsk is due ahead of NoPlace.
        cell = cell_asked(words[-1])
        self.field = field_with(self.field, place[0], place[1], cell)

    def filtered_field(self):
        return filtered(self.field, self.window, self.rule, self.share)

    def lines_told(self, word, words):
        if word == "at":
            return self.lines_at(numbers_asked(words, 2))
        if word == "still":
            return self.lines_still(times_asked(words))
        numbers_asked(words, 0)
        if word == "show":
            return lines_of(self.field)
        if word == "filter":
            return lines_of(self.filtered_field())
        if word == "moves":
            return [str(slid(self.field, self.window, self.rule, self.share)[1])]
        raise NoAsk("there is no such line")

    def lines_at(self, place):
        refuse_outside(self.field, place[0], place[1])
        cells = window_cells(self.field, self.window, self.rule, place[0], place[1])
        return [row_shown(cells), cell_shown(told_of_cells(cells, self.share))]

    def lines_still(self, most):
        told = again(self.field, self.window, self.rule, self.share, most)
        words = [told[0]]
        # Behind the word and the field stand times and ring, as far as there are any.
        words.extend([str(number) for number in told[2:]])
        return [" ".join(words)] + lines_of(told[1])
