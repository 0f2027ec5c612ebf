"""A field that is kept with what is told of it, while its cells change."""

from midwindow.cells.windows import brought_inside, is_inside, places_around, window_cells
from midwindow.errors import NoPlace
from midwindow.ranks.plain import filtered, told_of_cells


def refuse_outside(field, i, j):
    if not is_inside(field, i, j):
        raise NoPlace("the field has no such place")


def row_with(row, j, cell):
    return row[:j] + (cell,) + row[j + 1:]


def field_with(field, i, j, cell):
    refuse_outside(field, i, j)
    return field[:i] + (row_with(field[i], j, cell),) + field[i + 1:]


def laid_from(rule, place, length):
    """The row or column of the field whose cells stand at a place, or None where none of its cells do."""
    if 0 <= place < length:
        return place
    if rule == "there" or isinstance(rule, tuple):
        return None
    return brought_inside(rule, place, length)


def places_holding(rule, place, length, ahead, behind):
    holding = []
    for other in range(length):
        if place in [laid_from(rule, held, length) for held in places_around(other, ahead, behind)]:
            holding.append(other)
    return holding


def places_touched(field, window, rule, i, j):
    # Every edge rule lays rows and columns each by themselves, so what they touch is looked up apart.
    columns = places_holding(rule, j, len(field[0]), window[2], window[3])
    places = []
    for row in places_holding(rule, i, len(field), window[0], window[1]):
        places.extend([(row, column) for column in columns])
    return tuple(places)


class KeptField:
    def __init__(self, field, window, rule, share):
        self.field = field
        self.window = window
        self.rule = rule
        self.share = share
        self.told = filtered(field, window, rule, share)
        self.touched = ()

    def change(self, i, j, cell):
        self.field = field_with(self.field, i, j, cell)
        self.touched = places_touched(self.field, self.window, self.rule, i, j)
        for row, column in self.touched:
            cells = window_cells(self.field, self.window, self.rule, row, column)
            self.told = field_with(self.told, row, column, told_of_cells(cells, self.share))

    def field_now(self):
        return self.field

    def told_now(self):
        return self.told

    def touched_last(self):
        return self.touched
