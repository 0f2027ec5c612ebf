"""Point [15]: kept fields; [3]'s promise of what one cell changes; and [2] for these."""

import unittest

from midwindow.cells.windows import window_cells
from midwindow.errors import NoPlace, WindowError
from midwindow.kept import KeptField
from midwindow.ranks.plain import filtered

MOST = 10 ** 9

RULES = ("there", "near", "turned", "round", ("told", 4), ("told", -MOST), ("told", None))

SHARES = ((1, 2), (0, 1), (1, 1), (1, 3), (999, 1000), (2, 4), (7, 9))

SHAPES = ((1, 1), (1, 2), (1, 6), (2, 1), (6, 1), (2, 2), (3, 4), (5, 3))

WINDOWS = ((0, 0, 0, 0), (1, 1, 1, 1), (1, 0, 0, 0), (0, 1, 0, 0), (0, 0, 1, 0), (0, 0, 0, 1), (2, 0, 1, 3),
           (0, 3, 2, 0), (6, 6, 6, 6), (0, 6, 0, 5), (5, 0, 6, 0))

NINE = ((1, 2, 3), (4, 5, 6), (7, 8, 9))


def some_numbers(how_many, seed):
    numbers = []
    at = seed * 7919 + 12345
    for k in range(how_many):
        at = (at * 1103515245 + 12345) % 2 ** 31
        numbers.append(at >> 8)
    return numbers


def some_field(height, width, holes):
    numbers = some_numbers(height * width, height * 100 + width)
    cells = [None if holes and k % holes == holes - 1 else number % 41 - 20 for k, number in enumerate(numbers)]
    return tuple(tuple(cells[i * width:i * width + width]) for i in range(height))


def with_cell(field, i, j, cell):
    rows = [list(row) for row in field]
    rows[i][j] = cell
    return tuple(tuple(row) for row in rows)


# A field of the cells' own numbers shows in each window which cells it holds; what a rule tells is none of them.
def holding(height, width, window, rule, i, j):
    numbered = tuple(tuple(r * width + c for c in range(width)) for r in range(height))
    laid = "there" if isinstance(rule, tuple) else rule
    return tuple(
        (r, c) for r in range(height) for c in range(width)
        if i * width + j in window_cells(numbered, window, laid, r, c)
    )


class Kept(unittest.TestCase):
    def stands(self, kept, field, told, touched):
        self.assertEqual(kept.field_now(), field)
        self.assertEqual(kept.told_now(), told)
        self.assertEqual(kept.touched_last(), touched)

    def test_ahead_of_all_changes(self):
        for height, width in SHAPES:
            field = some_field(height, width, 4)
            for window in WINDOWS:
                for rule in RULES:
                    kept = KeptField(field, window, rule, (1, 2))
                    self.stands(kept, field, filtered(field, window, rule, (1, 2)), ())

    def test_by_hand(self):
        kept = KeptField(((7, 3, 9),), (0, 0, 1, 1), "there", (1, 1))
        self.stands(kept, ((7, 3, 9),), ((7, 9, 9),), ())
        self.assertIsNone(kept.change(0, 2, 1))
        self.stands(kept, ((7, 3, 1),), ((7, 7, 3),), ((0, 1), (0, 2)))
        kept.change(0, 0, 2)
        self.stands(kept, ((2, 3, 1),), ((3, 3, 3),), ((0, 0), (0, 1)))
        kept.change(0, 1, -5)
        self.stands(kept, ((2, -5, 1),), ((2, 2, 1),), ((0, 0), (0, 1), (0, 2)))

    def test_holes_come_and_go(self):
        kept = KeptField(((7, None),), (0, 0, 0, 1), "there", (0, 1))
        self.stands(kept, ((7, None),), ((7, None),), ())
        kept.change(0, 1, 4)
        self.stands(kept, ((7, 4),), ((4, 4),), ((0, 0), (0, 1)))
        kept.change(0, 0, None)
        self.stands(kept, ((None, 4),), ((4, 4),), ((0, 0),))
        kept.change(0, 1, None)
        self.stands(kept, ((None, None),), ((None, None),), ((0, 0), (0, 1)))
        kept.change(0, 1, 0)
        self.stands(kept, ((None, 0),), ((0, 0),), ((0, 0), (0, 1)))

    def test_a_change_that_changes_nothing_touches_too(self):
        kept = KeptField(((7, None),), (0, 0, 0, 1), "there", (0, 1))
        kept.change(0, 1, None)
        self.stands(kept, ((7, None),), ((7, None),), ((0, 0), (0, 1)))
        kept.change(0, 0, 7)
        self.stands(kept, ((7, None),), ((7, None),), ((0, 0),))

    def touches(self, field, window, rule, i, j, wanted):
        with self.subTest(window=window, rule=rule, i=i, j=j):
            kept = KeptField(field, window, rule, (1, 2))
            kept.change(i, j, 50)
            self.assertEqual(kept.touched_last(), wanted)
            self.assertEqual(kept.told_now(), filtered(with_cell(field, i, j, 50), window, rule, (1, 2)))

    def test_touched_by_the_least_window(self):
        for rule in RULES:
            for i in range(3):
                for j in range(3):
                    self.touches(NINE, (0, 0, 0, 0), rule, i, j, ((i, j),))

    def test_touched_across_a_side(self):
        inside = ("there", ("told", 4), ("told", None))
        for rule in inside + ("near", "turned"):
            self.touches(NINE, (1, 0, 0, 0), rule, 2, 1, ((2, 1),))
            self.touches(NINE, (1, 0, 0, 0), rule, 0, 1, ((0, 1), (1, 1)))
            self.touches(NINE, (0, 0, 0, 1), rule, 1, 0, ((1, 0),))
        self.touches(NINE, (1, 0, 0, 0), "round", 2, 1, ((0, 1), (2, 1)))
        self.touches(NINE, (1, 0, 0, 0), "round", 0, 1, ((0, 1), (1, 1)))
        self.touches(NINE, (0, 0, 0, 1), "round", 1, 0, ((1, 0), (1, 2)))
        # Two rows up from the first row: the first row twice, or turned over the second, or going round the second.
        for rule in inside + ("near",):
            self.touches(NINE, (2, 0, 0, 0), rule, 1, 0, ((1, 0), (2, 0)))
        for rule in ("turned", "round"):
            self.touches(NINE, (2, 0, 0, 0), rule, 1, 0, ((0, 0), (1, 0), (2, 0)))
        for rule in inside + ("near", "turned"):
            self.touches(NINE, (2, 0, 0, 0), rule, 2, 0, ((2, 0),))
        self.touches(NINE, (2, 0, 0, 0), "round", 2, 0, ((0, 0), (1, 0), (2, 0)))

    def test_touched_across_a_corner(self):
        for rule in ("there", "near", "turned", ("told", 4)):
            self.touches(NINE, (1, 0, 1, 0), rule, 2, 2, ((2, 2),))
        self.touches(NINE, (1, 0, 1, 0), "round", 2, 2, ((0, 0), (0, 2), (2, 0), (2, 2)))

    def test_windows_wider_than_the_field(self):
        everywhere = tuple((i, j) for i in range(3) for j in range(3))
        for rule in RULES:
            for i in range(3):
                for j in range(3):
                    self.touches(NINE, (6, 6, 6, 6), rule, i, j, everywhere)
        for rule in ("turned", "round"):
            self.touches(NINE, (5, 0, 0, 6), rule, 2, 0, everywhere)
        self.touches(NINE, (5, 0, 0, 6), "near", 2, 0, ((2, 0),))
        self.touches(NINE, (5, 0, 0, 6), "near", 0, 2, everywhere)

    def test_told_cells_are_no_cells_of_the_field(self):
        # The told number stands in the field too, yet only the place itself holds the field's cell.
        kept = KeptField(((4, 4, 4),), (0, 0, 0, 1), ("told", 4), (1, 1))
        kept.change(0, 0, 4)
        self.stands(kept, ((4, 4, 4),), ((4, 4, 4),), ((0, 0),))

    def test_each_place_once_and_rising(self):
        for height, width in SHAPES:
            field = some_field(height, width, 3)
            for window in WINDOWS:
                for rule in RULES:
                    kept = KeptField(field, window, rule, (1, 2))
                    for i, j in ((0, 0), (height - 1, width - 1), (height // 2, width // 2)):
                        kept.change(i, j, 5)
                        touched = kept.touched_last()
                        self.assertEqual(list(touched), sorted(set(touched)))
                        self.assertEqual(touched, holding(height, width, window, rule, i, j))

    def test_many_changes(self):
        for height, width in SHAPES:
            for k, window in enumerate(WINDOWS):
                for n, rule in enumerate(RULES):
                    self.change_often(some_field(height, width, 4), window, rule, SHARES[(k + n) % len(SHARES)])

    def test_twelve_rows_and_columns(self):
        for rule in RULES:
            self.change_often(some_field(12, 12, 5), (2, 0, 1, 3), rule, (1, 2))
        self.change_often(some_field(12, 12, 5), (6, 6, 6, 6), "turned", (2, 3))

    def change_often(self, field, window, rule, share):
        height, width = len(field), len(field[0])
        kept = KeptField(field, window, rule, share)
        numbers = some_numbers(24, height + width)
        for i, j, cell in zip(numbers[::3], numbers[1::3], numbers[2::3]):
            i, j, cell = i % height, j % width, None if cell % 3 == 0 else cell % 61 - 30
            field = with_cell(field, i, j, cell)
            kept.change(i, j, cell)
            now = (kept.field_now(), kept.told_now(), kept.touched_last())
            wanted = (field, filtered(field, window, rule, share), holding(height, width, window, rule, i, j))
            if now != wanted:
                self.fail(f"{field}, {window}, {rule}, {share}, {i}, {j}: {now}, not {wanted}")

    def test_only_touched_places_change(self):
        for rule in RULES:
            for window in WINDOWS:
                field = some_field(4, 5, 6)
                kept = KeptField(field, window, rule, (1, 1))
                for i in range(4):
                    for j in range(5):
                        ahead = kept.told_now()
                        kept.change(i, j, MOST)
                        for r in range(4):
                            for c in range(5):
                                if (r, c) in kept.touched_last():
                                    self.assertEqual(kept.told_now()[r][c], MOST)
                                else:
                                    self.assertEqual(kept.told_now()[r][c], ahead[r][c])

    def test_kinds(self):
        kept = KeptField(NINE, (1, 0, 0, 0), "near", (1, 2))
        self.assertEqual(kept.touched_last(), ())
        kept.change(0, 1, 9)
        for told in (kept.field_now(), kept.told_now(), kept.touched_last()):
            self.assertEqual({type(row) for row in told} | {type(told)}, {tuple})
        for place in kept.touched_last():
            self.assertEqual([type(number) for number in place], [int, int])

    def test_by_name_in_any_order(self):
        kept = KeptField(share=(1, 1), rule="there", window=(0, 0, 1, 1), field=((7, 3, 9),))
        kept.change(cell=1, j=2, i=0)
        self.stands(kept, ((7, 3, 1),), ((7, 7, 3),), ((0, 1), (0, 2)))


class Refused(unittest.TestCase):
    PLACES = ((-1, 0), (0, -1), (-1, -1), (2, 0), (0, 3), (2, 3), (-2, 0), (0, -3), (-10 ** 13, 0), (0, 10 ** 13),
              (1, 3), (2, 2), (-1, 3))

    def test_places_that_are_none(self):
        for rule in RULES:
            kept = KeptField(((1, 2, 3), (4, 5, 6)), (1, 1, 1, 1), rule, (1, 2))
            for i, j in self.PLACES:
                for cell in (9, None):
                    with self.subTest(rule=rule, i=i, j=j), self.assertRaises(NoPlace) as caught:
                        kept.change(i, j, cell)
                    self.assertIsInstance(caught.exception, WindowError)

    def test_nothing_changes(self):
        for rule in RULES:
            kept = KeptField(((1, 2, 3), (4, 5, 6)), (1, 0, 0, 1), rule, (1, 2))
            for change in (None, (0, 0, 8), (1, 2, None), (1, 1, 5)):
                if change:
                    kept.change(*change)
                ahead = (kept.field_now(), kept.told_now(), kept.touched_last())
                for i, j in self.PLACES:
                    self.assertRaises(NoPlace, kept.change, i, j, 77)
                    self.assertEqual((kept.field_now(), kept.told_now(), kept.touched_last()), ahead)
            kept.change(0, 1, 0)
            self.assertEqual(kept.field_now(), ((8, 0, 3), (4, 5, None)))

    def test_in_the_field_nothing_is_refused(self):
        kept = KeptField(NINE, (0, 0, 0, 0), "there", (1, 2))
        for i in range(3):
            for j in range(3):
                self.assertIsNone(kept.change(i, j, i - j))
        self.assertEqual(kept.field_now(), ((0, -1, -2), (1, 0, -1), (2, 1, 0)))


class TheAskersOwn(unittest.TestCase):
    def test_two_kept_fields_are_apart(self):
        one = KeptField(NINE, (1, 1, 1, 1), "near", (1, 2))
        other = KeptField(NINE, (1, 1, 1, 1), "near", (1, 2))
        one.change(1, 1, 100)
        self.assertEqual(other.field_now(), NINE)
        self.assertEqual(other.told_now(), filtered(NINE, (1, 1, 1, 1), "near", (1, 2)))
        self.assertEqual(other.touched_last(), ())
        other.change(0, 0, -100)
        self.assertEqual(one.field_now(), with_cell(NINE, 1, 1, 100))
        self.assertEqual(len(one.touched_last()), 9)
        self.assertEqual(len(other.touched_last()), 4)

    def test_what_was_told_earlier_stays(self):
        kept = KeptField(NINE, (1, 0, 1, 0), "round", (1, 1))
        told = []
        written = []
        for i, j, cell in ((0, 0, 5), (2, 2, None), (1, 0, 70), (2, 2, 4), (0, 0, 5)):
            kept.change(i, j, cell)
            told.append((kept.field_now(), kept.told_now(), kept.touched_last()))
            written.append(repr(told[-1]))
        self.assertEqual([repr(answer) for answer in told], written)

    def test_what_was_handed_in_stays(self):
        field = some_field(3, 4, 5)
        window = (1, 2, 0, 1)
        rule = ("told", 5)
        kept = KeptField(field, window, rule, (1, 2))
        kept.change(1, 1, 99)
        self.assertEqual((field, window, rule), (some_field(3, 4, 5), (1, 2, 0, 1), ("told", 5)))

    def test_asked_again(self):
        for rule in RULES:
            kept = KeptField(NINE, (1, 0, 1, 0), rule, (1, 2))
            kept.change(1, 1, 12)
            ahead = (kept.field_now(), kept.told_now(), kept.touched_last())
            KeptField(NINE, (0, 1, 0, 1), "there", (0, 1)).change(0, 0, 3)
            self.assertEqual((kept.field_now(), kept.told_now(), kept.touched_last()), ahead)
            self.assertEqual((kept.touched_last(), kept.told_now(), kept.field_now()), ahead[::-1])


if __name__ == "__main__":
    unittest.main()
