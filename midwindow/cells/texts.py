"""Fields as texts: a row a line, cells parted by single blanks, a hole as a dot."""

from midwindow.errors import NoField

HOLE = "."
FIGURES = "0123456789"


def is_number(word):
    figures = word[1:] if word.startswith("-") else word
    if figures == "0":
        # -0 would be a second writing of 0, and then a text read and shown would not stay the same.
        return word == "0"
    if figures == "" or figures[0] == "0":
        return False
    # Asked sign by sign, as int() takes "+1", "1_0" and other forms that are no number here.
    return all([sign in FIGURES for sign in figures])


def is_cell(word):
    return word == HOLE or is_number(word)


def cell_read(word):
    return None if word == HOLE else int(word)


def cell_shown(cell):
    return HOLE if cell is None else str(cell)


def read_rows(lines):
    rows = []
    for row, line in enumerate(lines):
        # An empty line gives one empty word, and so do doubled blanks: that is no cell.
        words = line.split(" ")
        if not all([is_cell(word) for word in words]):
            raise NoField(row)
        if rows and len(words) != len(rows[0]):
            raise NoField(row)
        rows.append(tuple([cell_read(word) for word in words]))
    return tuple(rows)


def read_field(text):
    return read_rows(text.split("\n"))


def row_shown(row):
    return " ".join([cell_shown(cell) for cell in row])


def field_shown(field):
    return "\n".join([row_shown(row) for row in field])
