"""Points [5] and [6]: windows, edge rules and what stands at a place; and [2] for these."""

import signal
import unittest

from midwindow.cells.windows import stands_at, window_cells

FAR = 10 ** 13

FIELD = (
    (1, 2, 3),
    (4, None, 6),
)

RULES = ("there", "near", "turned", "round", ("told", 77), ("told", None), ("told", 0), ("told", -10 ** 9))

SHAPES = ((1, 1), (1, 2), (1, 5), (2, 1), (5, 1), (2, 3), (3, 2), (4, 4), (12, 12))


def some_field(height, width):
    return tuple(
        tuple(None if (i * 5 + j * 3) % 7 == 6 else i * 100 + j - 150 for j in range(width)) for i in range(height)
    )


# The ways of laying out are written out here cell by cell, as the document tells them, not reckoned.
def laid_out(rule, length, turns):
    there = list(range(length))
    back = there[::-1]
    if rule == "near":
        line = [0] * (2 * turns * length) + there + [length - 1] * (2 * turns * length)
    elif rule == "turned":
        line = (there + back) * turns + there + (back + there) * turns
    else:
        line = there * (4 * turns + 1)
    return {place - 2 * turns * length: at for place, at in enumerate(line)}


def plainly_at(field, rule, i, j, rows, columns):
    if 0 <= i < len(field) and 0 <= j < len(field[0]):
        return (field[i][j],)
    if rule == "there":
        return ()
    if isinstance(rule, tuple):
        return (rule[1],)
    return (field[rows[i]][columns[j]],)


def in_time(case):
    def stopped(number, frame):
        case.fail("not answered at once")

    before = signal.signal(signal.SIGALRM, stopped)
    case.addCleanup(signal.signal, signal.SIGALRM, before)
    case.addCleanup(signal.alarm, 0)
    signal.alarm(20)


class StandsAt(unittest.TestCase):
    def told(self, rule, *wanted):
        for (i, j), cells in wanted:
            with self.subTest(rule=rule, i=i, j=j):
                got = stands_at(FIELD, rule, i, j)
                self.assertIs(type(got), tuple)
                self.assertEqual(got, cells)

    def test_in_the_field_all_rules_are_alike(self):
        for height, width in SHAPES:
            field = some_field(height, width)
            for rule in RULES:
                for i in range(height):
                    for j in range(width):
                        self.assertEqual(stands_at(field, rule, i, j), (field[i][j],))

    def test_there(self):
        self.told("there", ((-1, 0), ()), ((0, -1), ()), ((2, 0), ()), ((0, 3), ()), ((-1, -1), ()), ((2, 3), ()),
                  ((-1, 3), ()), ((2, -1), ()), ((-50, 1), ()), ((1, 50), ()), ((1, 1), (None,)), ((1, 2), (6,)))

    def test_near(self):
        self.told("near", ((-1, 0), (1,)), ((-1, 1), (2,)), ((-9, 2), (3,)), ((2, 0), (4,)), ((9, 1), (None,)),
                  ((0, -1), (1,)), ((1, -9), (4,)), ((0, 3), (3,)), ((1, 9), (6,)), ((-1, -1), (1,)), ((-1, 3), (3,)),
                  ((2, -1), (4,)), ((2, 3), (6,)), ((-9, 9), (3,)), ((9, -9), (4,)))

    def test_turned(self):
        self.told("turned", ((0, -1), (1,)), ((0, -2), (2,)), ((0, -3), (3,)), ((0, -4), (3,)), ((0, -5), (2,)),
                  ((0, -6), (1,)), ((0, -7), (1,)), ((0, 3), (3,)), ((0, 4), (2,)), ((0, 5), (1,)), ((0, 6), (1,)),
                  ((0, 7), (2,)), ((0, 8), (3,)), ((0, 9), (3,)), ((-1, 0), (1,)), ((-2, 0), (4,)), ((-3, 0), (4,)),
                  ((-4, 0), (1,)), ((-5, 0), (1,)), ((2, 0), (4,)), ((3, 0), (1,)), ((4, 0), (1,)), ((5, 0), (4,)),
                  ((-1, -1), (1,)), ((-2, -2), (None,)), ((2, 3), (6,)), ((3, 4), (2,)), ((2, 4), (None,)))

    def test_round(self):
        self.told("round", ((0, -1), (3,)), ((0, -2), (2,)), ((0, -3), (1,)), ((0, -4), (3,)), ((0, 3), (1,)),
                  ((0, 4), (2,)), ((0, 5), (3,)), ((0, 6), (1,)), ((-1, 0), (4,)), ((-2, 0), (1,)), ((-3, 0), (4,)),
                  ((2, 0), (1,)), ((3, 0), (4,)), ((-1, -1), (6,)), ((2, 3), (1,)), ((-1, 4), (None,)), ((2, -1), (3,)))

    def test_told(self):
        for cell in (77, 0, -5, 10 ** 9, -10 ** 9, None):
            self.told(("told", cell), ((-1, 0), (cell,)), ((0, -1), (cell,)), ((2, 0), (cell,)), ((0, 3), (cell,)),
                      ((-1, -1), (cell,)), ((2, 3), (cell,)), ((-1, 3), (cell,)), ((2, -1), (cell,)),
                      ((99, 1), (cell,)), ((1, -99), (cell,)), ((0, 0), (1,)), ((1, 1), (None,)))

    def test_one_row_and_one_column(self):
        row = ((1, 2, 3),)
        column = ((1,), (2,), (3,))
        for rule in ("near", "turned", "round"):
            for beyond in (-9, -2, -1, 1, 2, 9):
                for k in range(3):
                    with self.subTest(rule=rule, beyond=beyond, k=k):
                        self.assertEqual(stands_at(row, rule, beyond, k), (k + 1,))
                        self.assertEqual(stands_at(column, rule, k, beyond), (k + 1,))
        self.assertEqual(stands_at(((8,),), "turned", 5, -7), (8,))
        self.assertEqual(stands_at(((None,),), "round", -5, 7), (None,))
        self.assertEqual(stands_at(((8,),), "there", 0, 1), ())
        self.assertEqual(stands_at(((8,),), "there", 1, 0), ())
        self.assertEqual(stands_at(((8,),), ("told", 9), 0, -1), (9,))

    def test_as_laid_out_all_around(self):
        for height, width in SHAPES:
            field = some_field(height, width)
            for rule in RULES:
                rows = laid_out(rule, height, 2)
                columns = laid_out(rule, width, 2)
                for i in range(-3 * height, 4 * height):
                    for j in range(-3 * width, 4 * width):
                        wanted = plainly_at(field, rule, i, j, rows, columns)
                        got = stands_at(field, rule, i, j)
                        if got != wanted:
                            self.fail(f"{height} x {width}, {rule}, ({i}, {j}): {got}, not {wanted}")

    def test_very_far_at_once(self):
        in_time(self)
        self.told("there", ((FAR, 0), ()), ((0, -FAR), ()), ((-FAR, FAR), ()))
        self.told("near", ((FAR, 0), (4,)), ((-FAR, 0), (1,)), ((0, FAR), (3,)), ((0, -FAR), (1,)), ((FAR, FAR), (6,)),
                  ((-FAR, FAR), (3,)), ((FAR, -FAR), (4,)), ((-FAR, -FAR), (1,)))
        self.told("turned", ((0, FAR), (2,)), ((0, FAR - 1), (3,)), ((0, FAR + 1), (1,)), ((0, -FAR), (3,)),
                  ((0, 1 - FAR), (3,)), ((0, 2 - FAR), (2,)), ((FAR, 0), (1,)), ((FAR - 1, 0), (1,)),
                  ((FAR - 2, 0), (4,)), ((-FAR, 0), (1,)), ((1 - FAR, 0), (4,)), ((FAR - 2, FAR), (None,)))
        self.told("round", ((0, FAR), (2,)), ((0, FAR - 1), (1,)), ((0, -FAR), (3,)), ((0, 1 - FAR), (1,)),
                  ((FAR, 0), (1,)), ((FAR - 1, 0), (4,)), ((-FAR, 0), (1,)), ((1 - FAR, 0), (4,)),
                  ((FAR - 1, FAR), (None,)))
        self.told(("told", 5), ((FAR, 0), (5,)), ((0, -FAR), (5,)), ((-FAR, FAR), (5,)))
        self.told(("told", None), ((FAR, 0), (None,)), ((0, -FAR), (None,)))

    def test_very_far_of_twelve(self):
        in_time(self)
        field = tuple(tuple(i * 12 + j for j in range(12)) for i in range(12))
        self.assertEqual(stands_at(field, "round", FAR, -FAR), (4 * 12 + 8,))
        self.assertEqual(stands_at(field, "turned", FAR, -FAR), (7 * 12 + 8,))
        self.assertEqual(stands_at(field, "near", FAR, -FAR), (11 * 12,))

    def test_by_name_in_any_order(self):
        self.assertEqual(stands_at(j=-1, i=1, rule="round", field=FIELD), (6,))
        self.assertEqual(stands_at(field=FIELD, rule="near", i=7, j=0), (4,))


class WindowCells(unittest.TestCase):
    def test_a_window_of_one_place(self):
        for rule in RULES:
            for i in range(2):
                for j in range(3):
                    self.assertEqual(window_cells(FIELD, (0, 0, 0, 0), rule, i, j), (FIELD[i][j],))

    def test_row_by_row_from_left_to_right(self):
        field = ((1, 2, 3, 4), (5, 6, None, 8), (9, 10, 11, 12), (13, 14, 15, 16))
        self.assertEqual(window_cells(field, (1, 1, 1, 1), "there", 1, 1), (1, 2, 3, 5, 6, None, 9, 10, 11))
        self.assertEqual(window_cells(field, (1, 0, 0, 0), "there", 2, 2), (None, 11))
        self.assertEqual(window_cells(field, (0, 1, 0, 0), "there", 2, 2), (11, 15))
        self.assertEqual(window_cells(field, (0, 0, 1, 0), "there", 2, 2), (10, 11))
        self.assertEqual(window_cells(field, (0, 0, 0, 1), "there", 2, 2), (11, 12))
        self.assertEqual(window_cells(field, (0, 1, 2, 1), "there", 1, 2), (5, 6, None, 8, 9, 10, 11, 12))

    def test_at_a_corner_by_each_rule(self):
        window = (1, 0, 1, 1)
        for rule, cells in (("there", (1, 2)), ("near", (1, 1, 2, 1, 1, 2)), ("turned", (1, 1, 2, 1, 1, 2)),
                            ("round", (6, 4, None, 3, 1, 2)), (("told", 9), (9, 9, 9, 9, 1, 2)),
                            (("told", None), (None, None, None, None, 1, 2))):
            with self.subTest(rule=rule):
                self.assertEqual(window_cells(FIELD, window, rule, 0, 0), cells)
        window = (0, 1, 0, 2)
        for rule, cells in (("there", (6,)), ("near", (6, 6, 6, 6, 6, 6)), ("turned", (6, 6, None, 6, 6, None)),
                            ("round", (6, 4, None, 3, 1, 2)), (("told", 9), (6, 9, 9, 9, 9, 9)),
                            (("told", None), (6, None, None, None, None, None))):
            with self.subTest(rule=rule):
                self.assertEqual(window_cells(FIELD, window, rule, 1, 2), cells)

    def test_wider_than_the_field(self):
        self.assertEqual(window_cells(((5,),), (6, 6, 6, 6), "there", 0, 0), (5,))
        for rule in ("near", "turned", "round"):
            self.assertEqual(window_cells(((5,),), (6, 6, 6, 6), rule, 0, 0), (5,) * 169)
        self.assertEqual(window_cells(((5,),), (6, 6, 6, 6), ("told", 3), 0, 0), (3,) * 84 + (5,) + (3,) * 84)
        self.assertEqual(window_cells(FIELD, (6, 6, 6, 6), "there", 1, 0), (1, 2, 3, 4, None, 6))
        self.assertEqual(window_cells(((1, 2),), (0, 0, 6, 6), "turned", 0, 0), (2, 1, 1, 2, 2, 1, 1, 2, 2, 1, 1, 2, 2))
        self.assertEqual(window_cells(((1, 2),), (0, 0, 6, 6), "round", 0, 0), (1, 2, 1, 2, 1, 2, 1, 2, 1, 2, 1, 2, 1))
        self.assertEqual(window_cells(((1, 2),), (0, 0, 6, 6), "near", 0, 0), (1,) * 7 + (2,) * 6)

    def test_holes_stay_and_places_without_a_cell_do_not(self):
        field = ((None, None), (None, 4))
        self.assertEqual(window_cells(field, (1, 1, 1, 1), "there", 0, 0), (None, None, None, 4))
        self.assertEqual(window_cells(((None,),), (1, 1, 0, 0), "there", 0, 0), (None,))

    def test_sides_from_nought_to_six(self):
        for height, width in ((1, 1), (1, 4), (3, 1), (2, 3), (12, 12)):
            field = some_field(height, width)
            for rule in RULES:
                rows = laid_out(rule, height, 6)
                columns = laid_out(rule, width, 6)
                for side in range(7):
                    for window in ((side, 0, 0, 0), (0, side, 0, 0), (0, 0, side, 0), (0, 0, 0, side),
                                   (side, 6 - side, 2, side), (side, side, side, side)):
                        for i, j in ((0, 0), (height - 1, width - 1), (height // 2, width // 2), (0, width - 1)):
                            self.compare(field, window, rule, i, j, rows, columns)

    def compare(self, field, window, rule, i, j, rows, columns):
        up, down, left, right = window
        wanted = ()
        for row in range(i - up, i + down + 1):
            for column in range(j - left, j + right + 1):
                wanted += plainly_at(field, rule, row, column, rows, columns)
        got = window_cells(field, window, rule, i, j)
        self.assertIs(type(got), tuple)
        if got != wanted:
            self.fail(f"{field}, {window}, {rule}, ({i}, {j}): {got}, not {wanted}")

    def test_by_name_in_any_order(self):
        self.assertEqual(window_cells(j=2, i=0, rule="there", window=(0, 1, 1, 0), field=FIELD), (2, 3, None, 6))


class AskedAgain(unittest.TestCase):
    def test_the_same_behind_other_questions(self):
        other = some_field(4, 4)
        asked = [(rule, i, j) for rule in RULES for i in (-5, 0, 1, 9) for j in (-4, 0, 2, 7)]
        stood = [stands_at(FIELD, rule, i, j) for rule, i, j in asked]
        held = [window_cells(FIELD, (1, 2, 3, 0), rule, 1, 2) for rule in RULES]
        for rule, i, j in reversed(asked):
            stands_at(other, rule, i, j)
            window_cells(other, (6, 0, 1, 2), rule, 3, 0)
        self.assertEqual([stands_at(FIELD, rule, i, j) for rule, i, j in asked], stood)
        self.assertEqual([window_cells(FIELD, (1, 2, 3, 0), rule, 1, 2) for rule in RULES], held)

    def test_nothing_handed_in_is_changed(self):
        field = some_field(3, 3)
        window = (2, 2, 2, 2)
        rule = ("told", 4)
        window_cells(field, window, rule, 0, 0)
        stands_at(field, rule, -1, 5)
        self.assertEqual((field, window, rule), (some_field(3, 3), (2, 2, 2, 2), ("told", 4)))


if __name__ == "__main__":
    unittest.main()
