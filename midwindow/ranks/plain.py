"""The so-manieth of numbers by plain sorting, and fields filtered by it."""

from midwindow.cells.windows import window_cells


def place_by_share(how_many, share):
    return share[0] * (how_many - 1) // share[1]


def so_manieth(numbers, share):
    if len(numbers) == 0:
        return None
    return sorted(numbers)[place_by_share(len(numbers), share)]


def without_holes(cells):
    return tuple([cell for cell in cells if cell is not None])


def told_of_cells(cells, share):
    return so_manieth(without_holes(cells), share)


def filtered(field, window, rule, share):
    rows = []
    for i in range(len(field)):
        row = []
        for j in range(len(field[i])):
            row.append(told_of_cells(window_cells(field, window, rule, i, j), share))
        rows.append(tuple(row))
    return tuple(rows)
