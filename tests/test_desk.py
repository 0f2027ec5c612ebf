"""Point [16]: the desk, its lines and its refusals; and [2] for it."""

import unittest

from midwindow.cells.texts import field_shown
from midwindow.cells.windows import window_cells
from midwindow.errors import NoAsk, NoField, NoPlace, WindowError
from midwindow.ranks.again import again
from midwindow.ranks.plain import filtered, so_manieth
from midwindow.ranks.slid import slid
from midwindow.whole import Desk

MOST = 10 ** 9

CHANGING = ("field 1 2;3 4", "window 1 1 1 1", "edge near", "edge told 4", "edge told .", "share 1 3", "cell 0 0 5",
            "take")

TELLING = ("show", "filter", "at 0 0", "moves", "still 0", "still 40")


def desk_asked(*lines):
    desk = Desk()
    for line in lines:
        desk.ask(line)
    return desk


# Set up so that each of the field, the window, the rule and the share would be missed if it were another one.
def set_up():
    return desk_asked("field 1 9 4;6 . 2", "window 0 1 2 0", "edge round", "share 2 3")


def all_told(desk, height=2, width=3):
    told = [desk.ask(line) for line in ("show", "filter", "moves", "still 3", "still 9")]
    for i in range(height):
        for j in range(width):
            told.append(desk.ask(f"at {i} {j}"))
    return told


class Lines(unittest.TestCase):
    def answers(self, desk, *wanted):
        for line, *texts in wanted:
            with self.subTest(line=line):
                self.assertEqual(desk.ask(line), texts)

    def test_at_first(self):
        self.answers(Desk(), ("show", "."), ("filter", "."), ("at 0 0", ".", "."), ("moves", "0"),
                     ("still 0", "open", "."), ("still 1", "still 0", "."), ("take",), ("show", "."))

    def test_at_first_the_window_the_edge_and_the_share(self):
        self.answers(desk_asked("field 3 1;2 4"), ("filter", "3 1", "2 4"), ("at 0 1", "1", "1"), ("moves", "7"))
        self.answers(desk_asked("field 3 1;2 4", "window 1 1 1 1"), ("at 0 0", "3 1 2 4", "2"), ("filter", "2 2", "2 2"))

    def test_ordinary(self):
        desk = Desk()
        self.answers(
            desk,
            ("field 1 5 3;4 . 6",), ("show", "1 5 3", "4 . 6"),
            ("window 0 0 1 1",), ("filter", "1 3 3", "4 4 6"),
            ("at 0 0", "1 5", "1"), ("at 0 1", "1 5 3", "3"), ("at 1 0", "4 .", "4"), ("at 1 1", "4 . 6", "4"),
            ("moves", "9"),
            ("share 1 1",), ("filter", "5 5 5", "4 6 6"),
            ("share 0 1",), ("filter", "1 1 3", "4 4 6"),
            ("cell 1 1 -7",), ("show", "1 5 3", "4 -7 6"), ("filter", "1 1 3", "-7 -7 -7"),
            ("cell 0 2 .",), ("show", "1 5 .", "4 -7 6"),
            ("take",), ("show", "1 1 5", "-7 -7 -7"), ("filter", "1 1 1", "-7 -7 -7"),
        )

    def test_field(self):
        for line, *texts in (
                ("field .", "."), ("field 0", "0"), ("field -5", "-5"), ("field 1;2", "1", "2"), ("field 1 2", "1 2"),
                ("field . .;. .", ". .", ". ."), (f"field {MOST} -{MOST}", "1000000000 -1000000000"),
                ("field 10;-20;.", "10", "-20", ".")):
            self.answers(Desk(), (line,), ("show", *texts))

    def test_field_of_twelve_rows_and_columns(self):
        rows = [" ".join(str(i * j - 7) for j in range(12)) for i in range(12)]
        self.answers(Desk(), ("field " + ";".join(rows),), ("show", *rows))
        self.answers(Desk(), ("field " + ";".join(["."] * 12),), ("show", *["."] * 12))
        self.answers(Desk(), ("field " + " ".join(["."] * 12),), ("show", " ".join(["."] * 12)))

    def test_window(self):
        field = "field 1 2 3;4 5 6;7 8 9"
        for line, wanted in (("window 0 0 0 0", "5"), ("window 1 0 0 0", "2 5"), ("window 0 1 0 0", "5 8"),
                             ("window 0 0 1 0", "4 5"), ("window 0 0 0 1", "5 6"), ("window 1 0 1 0", "1 2 4 5"),
                             ("window 6 6 6 6", "1 2 3 4 5 6 7 8 9"), ("window 6 0 0 5", "2 3 5 6")):
            desk = desk_asked(field)
            self.answers(desk, (line,))
            self.assertEqual(desk.ask("at 1 1")[0], wanted)

    def test_edge(self):
        for line, cells, told in (
                ("edge there", "1", "1"), ("edge near", "1 1 1", "1"), ("edge turned", "2 1 1", "1"),
                ("edge round", "2 3 1", "2"), ("edge told 9", "9 9 1", "9"), ("edge told -9", "-9 -9 1", "-9"),
                ("edge told .", ". . 1", "1"), ("edge told 0", "0 0 1", "0"),
                (f"edge told {MOST}", f"{MOST} {MOST} 1", str(MOST)), (f"edge told -{MOST}", f"-{MOST} -{MOST} 1", f"-{MOST}")):
            self.answers(desk_asked("field 1 2 3;4 5 6", "window 0 0 2 0"), (line,), ("at 0 0", cells, told))

    def test_edge_there_again(self):
        desk = desk_asked("field 1 2 3", "window 0 0 1 0", "edge told 8")
        self.answers(desk, ("at 0 0", "8 1", "1"), ("edge there",), ("at 0 0", "1", "1"))

    def test_share(self):
        desk = desk_asked("field 10 11 12 13 14", "window 0 0 4 4")
        for line, told in (("share 0 1", 10), ("share 1 1", 14), ("share 1 2", 12), ("share 1 4", 11), ("share 1 3", 11),
                           ("share 0 1000", 10), ("share 1000 1000", 14), ("share 999 1000", 13), ("share 1 1000", 10)):
            self.answers(desk, (line,), ("at 0 0", "10 11 12 13 14", str(told)))

    def test_cell(self):
        desk = desk_asked("field 1 2;3 4")
        self.answers(desk, ("cell 0 1 7",), ("show", "1 7", "3 4"), ("cell 1 0 .",), ("show", "1 7", ". 4"),
                     ("cell 1 0 -3",), ("show", "1 7", "-3 4"), (f"cell 1 1 {MOST}",), (f"cell 0 0 -{MOST}",),
                     ("show", f"-{MOST} 7", f"-3 {MOST}"))

    def test_at_a_hole_and_without_numbers(self):
        desk = desk_asked("field . .;. 4")
        self.answers(desk, ("at 0 0", ".", "."), ("at 1 1", "4", "4"))
        desk.ask("window 0 0 1 1")
        self.answers(desk, ("at 0 0", ". .", "."), ("at 1 0", ". 4", "4"), ("filter", ". .", "4 4"))

    def test_moves_leave_holes_out(self):
        desk = desk_asked("field 7 3 9", "window 0 0 1 1")
        self.answers(desk, ("moves", "4"), ("edge near",), ("moves", "7"), ("edge told .",), ("moves", "4"),
                     ("edge told 2",), ("moves", "7"), ("cell 0 1 .",), ("moves", "6"), ("edge there",), ("moves", "3"))

    def test_still(self):
        desk = desk_asked("field 1 5 3;4 . 6", "window 0 0 1 1")
        self.answers(desk, ("still 0", "open", "1 5 3", "4 . 6"), ("still 1", "open", "1 3 3", "4 4 6"),
                     ("still 2", "open", "1 3 3", "4 4 4"), ("still 3", "still 2", "1 3 3", "4 4 4"),
                     ("still 40", "still 2", "1 3 3", "4 4 4"), ("show", "1 5 3", "4 . 6"))

    def test_still_that_goes_round(self):
        desk = desk_asked("field 0 1 0 1", "window 0 0 1 1", "edge round")
        self.answers(desk, ("still 1", "open", "1 0 1 0"), ("still 2", "round 0 2", "0 1 0 1"))
        desk = desk_asked("field 1 1 1 0 0 1 0 0", "window 0 0 0 2", "edge round")
        self.answers(desk, ("still 8", "open", "1 1 1 0 0 0 0 0"), ("still 9", "round 1 8", "1 1 0 0 0 0 0 1"),
                     ("still 40", "round 1 8", "1 1 0 0 0 0 0 1"))

    def test_take(self):
        desk = desk_asked("field 1 2 3 4", "window 0 0 1 0", "share 0 1")
        self.answers(desk, ("take",), ("show", "1 1 2 3"), ("take",), ("show", "1 1 1 2"), ("filter", "1 1 1 1"),
                     ("show", "1 1 1 2"))

    def test_telling_changes_nothing(self):
        desk = set_up()
        told = all_told(desk)
        for line in TELLING:
            desk.ask(line)
            self.assertEqual(all_told(desk), told)

    def test_a_line_changes_what_it_names_alone(self):
        desk = set_up()
        self.answers(desk, ("at 0 0", "9 4 1 . 2 6", "4"))
        # Of 1 2 4 6 9 the one with the number 2 * 4 // 3.
        self.answers(desk, ("field 1 9 4;6 3 2",), ("at 0 0", "9 4 1 3 2 6", "4"))
        self.answers(desk, ("share 1 1",), ("at 0 0", "9 4 1 3 2 6", "9"))
        self.answers(desk, ("edge near",), ("at 0 0", "1 1 1 6 6 6", "6"))
        self.answers(desk, ("window 0 0 0 1",), ("at 0 0", "1 9", "9"), ("at 0 2", "4 4", "4"))
        self.answers(desk, ("cell 0 1 .",), ("at 0 0", "1 .", "1"), ("show", "1 . 4", "6 3 2"))

    def test_what_tells_nothing_answers_with_an_empty_list(self):
        desk = Desk()
        for line in CHANGING:
            answer = desk.ask(line)
            self.assertIs(type(answer), list)
            self.assertEqual(answer, [])

    def test_kinds(self):
        desk = set_up()
        for line in TELLING:
            answer = desk.ask(line)
            self.assertIs(type(answer), list)
            self.assertEqual({type(text) for text in answer}, {str})
            self.assertFalse([text for text in answer if "\n" in text])

    def test_by_name(self):
        self.assertEqual(Desk().ask(line="show"), ["."])


class Model:
    """A desk of its own, by the other modules' functions, with the fields kept as tuples."""

    def __init__(self):
        self.asked = [((None,),), (0, 0, 0, 0), "there", (1, 2)]

    def answers(self):
        field, window, rule, share = self.asked
        height, width = len(field), len(field[0])
        wanted = {"show": field_shown(field).split("\n"), "filter": field_shown(filtered(*self.asked)).split("\n"),
                  "moves": [str(slid(*self.asked)[1])]}
        for most in (0, 1, 2, 7):
            word, last, *numbers = again(*self.asked, most)
            wanted[f"still {most}"] = [" ".join([word] + [str(n) for n in numbers])] + field_shown(last).split("\n")
        for i, j in ((0, 0), (height - 1, width - 1)):
            cells = window_cells(field, window, rule, i, j)
            told = so_manieth(tuple(cell for cell in cells if cell is not None), share)
            wanted[f"at {i} {j}"] = field_shown((cells,)).split("\n") + [field_shown(((told,),))]
        return wanted


class LongTalks(unittest.TestCase):
    RULES = ("there", "near", "turned", "round", ("told", 3), ("told", None))

    def step(self, desk, model, at):
        field = model.asked[0]
        kind, at = at % 6, at // 6
        if kind == 0:
            height, width = at % 4 + 1, at // 4 % 5 + 1
            cells = [(at >> k) % 7 - 1 for k in range(height * width)]
            cells = [None if cell < 0 else cell for cell in cells]
            model.asked[0] = tuple(tuple(cells[i * width:i * width + width]) for i in range(height))
            desk.ask("field " + field_shown(model.asked[0]).replace("\n", ";"))
        elif kind == 1:
            model.asked[1] = tuple((at >> k) % 4 for k in (0, 2, 4, 6))
            desk.ask("window " + " ".join(str(side) for side in model.asked[1]))
        elif kind == 2:
            rule = self.RULES[at % 6]
            model.asked[2] = rule
            desk.ask("edge " + ("told " + field_shown(((rule[1],),)) if isinstance(rule, tuple) else rule))
        elif kind == 3:
            below = at % 9 + 1
            model.asked[3] = (at // 9 % (below + 1), below)
            desk.ask(f"share {model.asked[3][0]} {model.asked[3][1]}")
        elif kind == 4:
            i, j, cell = at % len(field), at // 7 % len(field[0]), at % 30 - 9
            rows = [list(row) for row in field]
            rows[i][j] = cell
            model.asked[0] = tuple(tuple(row) for row in rows)
            desk.ask(f"cell {i} {j} {cell}")
        else:
            model.asked[0] = filtered(*model.asked)
            desk.ask("take")

    def test_as_the_modules_tell(self):
        for seed in range(12):
            desk, model = Desk(), Model()
            at = seed
            for k in range(60):
                at = (at * 1103515245 + 12345) % 2 ** 31
                self.step(desk, model, at >> 7)
                if k % 3 == 0:
                    for line, wanted in model.answers().items():
                        self.assertEqual(desk.ask(line), wanted)


NO_ASKS = (
    "", " ", "\n", ".", "1", "1 2", "shows", "Show", "SHOW", "sho", "help", "show filter",
    "show ", " show", "show  ", "show show", "show 1", "show\n", "\nshow", "filter ", " filter", "filter 1", "filters",
    "moves ", " moves", "moves 1", "moves 0 0", "move", "take ", " take", "take 1", "take\n", "taken",
    "at", "at ", "at 0", "at 0 ", "at 0 0 0", "at 0 0 ", "at  0 0", "at 0  0", " at 0 0", "at +0 0", "at -0 0", "at 0 -0",
    "at 00 0", "at 0 00", "at 01 0", "at 0 x", "at 0 .", "at . 0", "at 1.0 0", "at 0 1_0", "at 0 0\n", "at 0\n0",
    "at 0,0", "at - 0", "at 0 --1", "at0 0",
    "still", "still ", "still 41", "still 1000", "still -1", "still 040", "still 00", "still +1", "still -0", "still 1 1",
    "still .", "still x", "still 1 ", "still  1", " still 1", "still 1\n", "still 99999999999999", "still -41",
    "window", "window ", "window 1", "window 1 1 1", "window 1 1 1 1 1", "window 7 0 0 0", "window 0 7 0 0",
    "window 0 0 7 0", "window 0 0 0 7", "window -1 0 0 0", "window 0 -1 0 0", "window 0 0 -1 0", "window 0 0 0 -1",
    "window 01 0 0 0", "window 0 0 0 .", "window 0 0 0 -0", "window 0 0 +1 0", "window 0 0  0 0", "window 0 0 0 0 ",
    "window  0 0 0 0", " window 0 0 0 0", "window 0 0 0 x", "window 0 0 0 0\n", "window 100 0 0 0", "windows 0 0 0 0",
    "edge", "edge ", "edge There", "edge there ", " edge there", "edge  there", "edge there 1", "edge there .",
    "edge near .", "edge near near", "edge told", "edge told ", "edge told x", "edge told 1 2", "edge told 1000000001",
    "edge told -1000000001", "edge told 01", "edge told +1", "edge told -0", "edge told 00", "edge told ..",
    "edge told  1", "edge told 1 ", "edge told -", "edge nearest", "edge .", "edge 1", "edge told there", "edge there\n",
    "edge round 1", "edge turned .", "edge 1 told", "edge none", "edge told . .", "edges there", "edge near 5",
    "share", "share ", "share 1", "share 1 2 3", "share 2 1", "share 0 0", "share 1 0", "share -1 2", "share 1 -2",
    "share -2 -1", "share -1 -1", "share 1 1001", "share 1001 1001", "share 0 1001", "share 1001 1", "share 1 02",
    "share 01 2", "share +1 2", "share -0 1", "share . 1", "share 1 .", "share 1  2", "share 1 2 ", " share 1 2",
    "share 1/2", "share 1000 999", "share 0 -1", "share 1 2\n", "share 500 100000",
    "cell", "cell ", "cell 0", "cell 0 0", "cell 0 0 1 1", "cell 0 0 x", "cell 0 0 1000000001", "cell 0 0 -1000000001",
    "cell 0 0 01", "cell 0 0 -0", "cell 0 0 +1", "cell 00 0 1", "cell 0 -0 1", "cell . 0 1", "cell 0 . 1", "cell +0 0 1",
    "cell 0 0  1", "cell 0  0 1", "cell  0 0 1", "cell 0 0 1 ", "cell 0 0 ", " cell 0 0 1", "cell 0 0 None",
    "cell 0 0 1\n", "cell 0 0 ..", "cell 0 0 99999999999999", "cells 0 0 1",
    "field", "fields 1", "field\n1", "field\n 1", "field;1", "Field 1", " field 1", "FIELD 1", "field1", "fiel 1",
)

NO_FIELDS = (
    ("field ", 0), ("field  ", 0), ("field ;", 0), ("field 1;", 1), ("field ;1", 0), ("field  1", 0), ("field 1 ", 0),
    ("field 1  2", 0), ("field 1 2;3", 1), ("field 1;2 3", 1), ("field 1 2;3 4;5", 2), ("field 1 2;3 x;5", 1),
    ("field 1;2;3;01", 3), ("field +1", 0), ("field -0", 0), ("field 1;-0", 1), ("field 1; 2", 1), ("field 1 ;2", 0),
    ("field 1;2 ", 1), ("field 1,2", 0), ("field 1;;2", 1), ("field x;y", 0), ("field 1;y;x", 1), ("field ..", 0),
    ("field -", 0), ("field 1 2;. -", 1), ("field 1_0", 0), ("field 1.", 0), ("field field 1", 0), ("field TEXT", 0),
    # Rows are parted by ; alone, so that a line end makes its row wrong.
    ("field \n", 0), ("field 1\n2", 0), ("field 1\n", 0), ("field \n1", 0), ("field 1;2\n3", 1), ("field 1;2;\n3", 2),
    ("field 1 2\n3 4", 0), ("field 1 2;3 4\n5 6", 1), ("field 1\n;2", 0),
    ("field " + ";".join(["1"] * 13), 0), ("field " + " ".join(["1"] * 13), 0), ("field " + ";".join(["."] * 40), 0),
    ("field " + ";".join([" ".join(["."] * 13)] * 13), 0),
    ("field 1000000001", 0), ("field -1000000001", 0), ("field 1;2;1000000001", 0), ("field 1 2;3 -1000000001", 0),
    ("field . 99999999999999999999", 0), ("field " + "9" * 3900, 0), ("field 1;" + "-" + "9" * 3900, 0),
    # A text that is none comes first, with its row, ahead of what is too much of a field.
    ("field " + ";".join(["1"] * 12 + ["x"]), 12), ("field " + ";".join(["1"] * 20 + ["1 1"]), 20),
    ("field 1000000001;1;x", 2), ("field 1 1000000001;1", 1), ("field " + " ".join(["1"] * 13) + ";1", 1),
    ("field " + " ".join(["1"] * 13) + ";" + " ".join(["1"] * 12), 1),
)

NO_PLACES = (
    "at -1 0", "at 0 -1", "at 2 0", "at 0 3", "at 2 3", "at -1 -1", "at -2 0", "at 0 -3", "at 1 3", "at 2 2", "at 3 1",
    "at 10000000000000 0", "at 0 -10000000000000", "at 0 " + "9" * 3900,
    "cell -1 0 1", "cell 0 -1 1", "cell 2 0 1", "cell 0 3 1", "cell 2 3 .", "cell -1 -1 .", "cell -2 0 5", "cell 0 -3 5",
    "cell 1 3 0", "cell 2 2 0", "cell 10000000000000 0 1", "cell 0 -10000000000000 1", "cell 0 3 1000000000",
)

NO_ASK_AHEAD_OF_NO_PLACE = (
    "at 9 x", "at x 9", "at 9 9 9", "at 9", "at -1 +1", "at 9 01", "at -1 -0", "at 9 9 ", "at  9 9",
    "cell 9 9 x", "cell 9 9 1000000001", "cell 9 9 -1000000001", "cell -1 0 01", "cell 9 01 1", "cell +9 9 1", "cell 9 9",
    "cell 9 9 1 1", "cell 9 9 ", "cell 9 9 -0", "cell -1 . 1",
)


class Refused(unittest.TestCase):
    def refused(self, error, lines, told_of=lambda caught: None, wanted=None):
        desk = set_up()
        told = all_told(desk)
        for k, line in enumerate(lines):
            with self.subTest(line=line[:60]):
                with self.assertRaises(WindowError) as caught:
                    desk.ask(line)
                self.assertIs(type(caught.exception), error)
                if wanted:
                    self.assertEqual(told_of(caught.exception), wanted[k])
                self.assertEqual(all_told(desk), told)

    def test_no_ask(self):
        self.refused(NoAsk, NO_ASKS)

    def test_no_ask_of_a_desk_as_it_is_at_first(self):
        for line in NO_ASKS:
            desk = Desk()
            with self.subTest(line=line):
                self.assertRaises(NoAsk, desk.ask, line)
                self.assertEqual(desk.ask("show") + desk.ask("at 0 0") + desk.ask("moves"), [".", ".", ".", "0"])

    def test_no_field(self):
        self.refused(NoField, [line for line, row in NO_FIELDS], lambda error: error.row, [row for line, row in NO_FIELDS])

    def test_no_place(self):
        self.refused(NoPlace, NO_PLACES)

    def test_no_ask_ahead_of_no_place(self):
        self.refused(NoAsk, NO_ASK_AHEAD_OF_NO_PLACE)

    def test_places_of_a_desk_as_it_is_at_first(self):
        desk = Desk()
        for line in ("at 0 1", "at 1 0", "at -1 0", "cell 1 0 3", "cell 0 1 3", "cell 0 -1 3"):
            self.assertRaises(NoPlace, desk.ask, line)
        self.assertEqual(desk.ask("cell 0 0 3"), [])
        self.assertEqual(desk.ask("show"), ["3"])

    def test_a_desk_goes_on_behind_refusals(self):
        desk = set_up()
        for line in ("window 7 0 0 0", "field x", "at 9 9", "share 2 1", "edge told", "cell 5 5 5"):
            self.assertRaises(WindowError, desk.ask, line)
        self.assertEqual(desk.ask("cell 1 1 3"), [])
        self.assertEqual(desk.ask("show"), ["1 9 4", "6 3 2"])
        self.assertEqual(desk.ask("at 0 0"), ["9 4 1 3 2 6", "4"])

    def test_places_are_those_of_the_field_as_it_is(self):
        desk = desk_asked("field 1 2 3;4 5 6", "field 7")
        self.assertRaises(NoPlace, desk.ask, "at 0 1")
        self.assertRaises(NoPlace, desk.ask, "cell 1 0 2")
        desk.ask("field 1;2")
        self.assertEqual(desk.ask("at 1 0"), ["2", "2"])


class TheAskersOwn(unittest.TestCase):
    def test_two_desks_are_apart(self):
        one, other = Desk(), Desk()
        for line in CHANGING:
            one.ask(line)
        self.assertEqual(all_told(other, 1, 1), all_told(Desk(), 1, 1))
        other.ask("field 8")
        self.assertEqual(len(one.ask("show")), 2)
        self.assertEqual(other.ask("show"), ["8"])

    def test_an_answer_that_is_changed_changes_nothing(self):
        for desk in (Desk(), set_up()):
            for line in TELLING + ("share 2 3", "cell 0 0 1"):
                desk.ask("cell 0 0 1")
                wanted = list(desk.ask(line))
                answer = desk.ask(line)
                answer.append("more")
                answer.insert(0, "5")
                self.assertEqual(desk.ask(line), wanted)
                desk.ask(line).clear()
                self.assertEqual(desk.ask(line), wanted)

    def test_an_answer_stays_as_it_was(self):
        desk = set_up()
        answers = [desk.ask(line) for line in TELLING]
        written = repr(answers)
        for line in CHANGING + TELLING:
            desk.ask(line)
        self.assertEqual(repr(answers), written)
        empty = desk.ask("take")
        desk.ask("show")
        self.assertEqual(empty, [])

    def test_the_same_asked_again(self):
        desk = set_up()
        told = all_told(desk)
        desk.ask("field 7 7 7;8 8 8")
        desk.ask("edge near")
        all_told(desk)
        all_told(Desk(), 1, 1)
        desk.ask("edge round")
        desk.ask("field 1 9 4;6 . 2")
        self.assertEqual(all_told(desk), told)
        self.assertEqual(all_told(set_up()), told)


if __name__ == "__main__":
    unittest.main()
