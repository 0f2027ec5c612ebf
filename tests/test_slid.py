"""Points [10] and [11]: a window that slides, and what comes in and goes out; [3], and [2], for these."""

import unittest

from midwindow.cells.windows import stands_at
from midwindow.ranks.plain import filtered
from midwindow.ranks.slid import moves, slid

MOST = 10 ** 9

RULES = ("there", "near", "turned", "round", ("told", 4), ("told", -MOST), ("told", None))

SHARES = ((1, 2), (0, 1), (1, 1), (1, 3), (999, 1000), (2, 4), (7, 9))

SHAPES = ((1, 1), (1, 2), (1, 6), (2, 1), (6, 1), (2, 2), (2, 3), (3, 2), (3, 3), (4, 3), (5, 4))

WINDOWS = ((0, 0, 0, 0), (1, 1, 1, 1), (1, 0, 0, 0), (0, 1, 0, 0), (0, 0, 1, 0), (0, 0, 0, 1), (2, 0, 1, 3),
           (0, 3, 2, 0), (6, 6, 6, 6), (0, 6, 0, 5), (5, 0, 6, 0))


def some_field(height, width, holes, seed=0):
    cells = []
    at = height * 1000 + width * 10 + holes + seed * 7919
    for k in range(height * width):
        at = (at * 1103515245 + 12345) % 2 ** 31
        hole = holes == 1 or holes and (at >> 20) % holes == 0
        cells.append(None if hole else (at >> 8) % 19 - 9)
    return tuple(tuple(cells[i * width:i * width + width]) for i in range(height))


def places_held(window, i, j):
    up, down, left, right = window
    return {(r, c) for r in range(i - up, i + down + 1) for c in range(j - left, j + right + 1)}


def there_and_back(height, width):
    for i in range(height):
        for j in range(width) if i % 2 == 0 else range(width - 1, -1, -1):
            yield i, j


# Places as sets, cell by cell, just as the document words it; the program reckons with whole rows and columns.
def counted_moves(field, window, rule):
    def numbers(places):
        return len([place for place in places if stands_at(field, rule, *place) not in ((), (None,))])

    moved = 0
    old = set()
    for i, j in there_and_back(len(field), len(field[0])):
        new = places_held(window, i, j)
        moved += numbers(new - old) + numbers(old - new)
        old = new
    return moved


class Slid(unittest.TestCase):
    def told(self, field, window, *wanted):
        for rule, moved in wanted:
            with self.subTest(field=field, window=window, rule=rule):
                got = slid(field, window, rule, (1, 2))
                self.assertEqual(got, (filtered(field, window, rule, (1, 2)), moved))

    def test_one_cell(self):
        for rule in RULES:
            self.assertEqual(slid(((5,),), (0, 0, 0, 0), rule, (1, 2)), (((5,),), 1))
            self.assertEqual(slid(((None,),), (0, 0, 0, 0), rule, (1, 2)), (((None,),), 0))
        self.told(((5,),), (1, 1, 1, 1), ("there", 1), ("near", 9), ("turned", 9), ("round", 9), (("told", 2), 9),
                  (("told", None), 1))
        self.told(((None,),), (1, 1, 1, 1), ("there", 0), ("near", 0), ("turned", 0), ("round", 0), (("told", 2), 8),
                  (("told", None), 0))

    def test_one_row(self):
        field = ((7, 3, 9),)
        self.assertEqual(slid(field, (0, 0, 1, 1), "there", (1, 1)), (((7, 9, 9),), 4))
        self.told(field, (0, 0, 0, 0), ("there", 5), ("round", 5), (("told", 2), 5))
        self.told(field, (0, 0, 1, 1), ("there", 4), ("near", 7), ("turned", 7), ("round", 7), (("told", 2), 7),
                  (("told", None), 4))
        self.told(field, (0, 0, 0, 1), ("there", 5), ("near", 6), (("told", None), 5))
        self.told(field, (0, 0, 1, 0), ("there", 4), ("near", 6), (("told", None), 4))
        self.told(field, (1, 0, 0, 0), ("there", 5), ("near", 10), (("told", None), 5))

    def test_one_column(self):
        field = ((7,), (3,), (9,))
        self.assertEqual(slid(field, (1, 1, 0, 0), "there", (1, 1)), (((7,), (9,), (9,)), 4))
        self.told(field, (0, 0, 0, 0), ("there", 5), ("round", 5), (("told", 2), 5))
        self.told(field, (1, 1, 0, 0), ("there", 4), ("near", 7), ("turned", 7), ("round", 7), (("told", 2), 7),
                  (("told", None), 4))
        self.told(field, (0, 1, 0, 0), ("there", 5), ("near", 6), (("told", None), 5))
        self.told(field, (1, 0, 0, 0), ("there", 4), ("near", 6), (("told", None), 4))

    def test_two_rows_are_walked_there_and_back(self):
        field = ((1, 2, 3), (4, 5, 6))
        self.told(field, (0, 0, 0, 0), ("there", 11), ("near", 11))
        self.told(field, (1, 0, 0, 0), ("there", 14), ("near", 20), ("turned", 20), ("round", 20), (("told", 2), 20),
                  (("told", None), 14))
        # The second row is walked to the left: a window that looks to the right alone takes in there what it looked at.
        self.told(field, (0, 0, 0, 1), ("there", 5 + 2 + 3), ("near", 6 + 4 + 4))

    def test_holes_are_not_counted(self):
        self.told(((7, None, 9),), (0, 0, 0, 0), ("there", 3), ("near", 3))
        self.told(((None, 7, 9),), (0, 0, 0, 0), ("there", 3))
        self.told(((7, 9, None),), (0, 0, 0, 0), ("there", 4))
        self.told(((7, None, 9),), (0, 0, 1, 1), ("there", 3), ("near", 6), ("round", 6), (("told", 2), 6),
                  (("told", None), 3))

    def test_at_the_end_nothing_goes_out(self):
        self.assertEqual(slid(((1, 2), (3, 4)), (6, 6, 6, 6), "there", (0, 1)), (((1, 1), (1, 1)), 4))
        self.assertEqual(slid(((1, 2), (3, 4), (5, 6)), (6, 6, 6, 6), "there", (1, 1)), (((6, 6),) * 3, 6))

    def test_a_place_outside_is_a_place_of_its_own(self):
        # Going round a row of two the window always holds both cells, yet each step brings one and takes one.
        self.assertEqual(slid(((1, 2),), (0, 0, 1, 0), "round", (0, 1)), (((1, 1),), 4))
        self.assertEqual(slid(((8, 8),), (0, 0, 1, 0), "near", (0, 1)), (((8, 8),), 4))
        self.assertEqual(slid(((8, 8),), (0, 0, 1, 1), ("told", 8), (0, 1)), (((8, 8),), 5))
        self.assertEqual(slid(((1,), (2,)), (6, 6, 6, 6), "round", (1, 2)), (((1,), (2,)), 169 + 26))

    def test_a_told_number_that_no_cell_has(self):
        self.assertEqual(slid(((1, 2),), (0, 0, 1, 0), ("told", 50), (1, 1)), (((50, 2),), 4))
        self.assertEqual(slid(((None,),), (0, 1, 0, 0), ("told", 0), (1, 1)), (((0,),), 1))

    def test_kinds(self):
        told = slid(some_field(3, 4, 2), (1, 1, 1, 1), "near", (1, 2))
        self.assertIs(type(told), tuple)
        self.assertEqual(len(told), 2)
        self.assertIs(type(told[0]), tuple)
        for row in told[0]:
            self.assertIs(type(row), tuple)
        self.assertIs(type(told[1]), int)

    def test_as_counted(self):
        for height, width in SHAPES:
            for holes in (0, 1, 2, 4):
                field = some_field(height, width, holes)
                for window in WINDOWS:
                    for rule in RULES:
                        wanted = counted_moves(field, window, rule)
                        got = slid(field, window, rule, (1, 2))[1]
                        if got != wanted:
                            self.fail(f"{field}, {window}, {rule}: {got}, not {wanted}")

    def test_by_name_in_any_order(self):
        self.assertEqual(slid(share=(1, 1), rule="there", window=(0, 0, 1, 1), field=((7, 3, 9),)), (((7, 9, 9),), 4))


class Moves(unittest.TestCase):
    def same(self, height, width, window, rule):
        field = some_field(height, width, 0)
        wanted = slid(field, window, rule, (1, 2))[1]
        got = moves(height, width, window, rule)
        if got != wanted:
            self.fail(f"{height} x {width}, {window}, {rule}: {got}, not {wanted}")

    def test_ordinary(self):
        for height, width, window, rule, moved in (
                (1, 1, (0, 0, 0, 0), "there", 1), (1, 1, (6, 6, 6, 6), "there", 1), (1, 1, (6, 6, 6, 6), "near", 169),
                (1, 1, (6, 6, 6, 6), ("told", None), 1), (1, 1, (6, 6, 6, 6), ("told", 0), 169),
                (1, 3, (0, 0, 1, 1), "there", 4), (1, 3, (0, 0, 1, 1), "turned", 7), (1, 3, (0, 0, 0, 1), "there", 5),
                (1, 3, (0, 0, 1, 0), "there", 4), (3, 1, (0, 1, 0, 0), "there", 5), (3, 1, (1, 0, 0, 0), "there", 4),
                (2, 3, (1, 0, 0, 0), "there", 14), (2, 3, (1, 0, 0, 0), "round", 20),
                (2, 3, (1, 0, 0, 0), ("told", None), 14), (2, 3, (1, 0, 0, 0), ("told", 7), 20),
                (12, 12, (0, 0, 0, 0), "near", 1 + 143 * 2), (12, 12, (6, 6, 6, 6), "near", 169 + 143 * 26)):
            with self.subTest(height=height, width=width, window=window, rule=rule):
                self.assertEqual(moves(height, width, window, rule), moved)
                self.assertIs(type(moves(height, width, window, rule)), int)

    def test_as_counted(self):
        for height, width in SHAPES:
            field = some_field(height, width, 0)
            for window in WINDOWS:
                for rule in RULES:
                    self.assertEqual(moves(height, width, window, rule), counted_moves(field, window, rule))

    def test_as_slid_for_sizes_from_one_to_twelve(self):
        for size in range(1, 13):
            for window in ((1, 0, 2, 1), (0, 2, 0, 6)):
                for rule in RULES:
                    self.same(size, 2, window, rule)
                    self.same(3, size, window, rule)

    def test_as_slid_for_sides_from_nought_to_six(self):
        for side in range(7):
            for window in ((side, 0, 0, 0), (0, side, 0, 0), (0, 0, side, 0), (0, 0, 0, side), (side,) * 4,
                           (6 - side, side, 1, side)):
                for rule in RULES:
                    self.same(3, 4, window, rule)
                    self.same(4, 3, window, rule)

    def test_as_slid_for_twelve_rows_and_columns(self):
        for window in ((6, 6, 6, 6), (1, 2, 3, 4), (0, 6, 5, 0)):
            for rule in RULES:
                self.same(12, 12, window, rule)

    def test_by_name_in_any_order(self):
        self.assertEqual(moves(rule="there", window=(1, 0, 0, 0), width=3, height=2), 14)


class Whole(unittest.TestCase):
    def test_slid_tells_the_field_that_filtered_tells(self):
        for height, width in SHAPES:
            for holes in (0, 1, 2, 5):
                field = some_field(height, width, holes)
                for k, window in enumerate(WINDOWS):
                    for n, rule in enumerate(RULES):
                        self.compare(field, window, rule, SHARES[(k + n) % len(SHARES)])

    def test_every_share(self):
        field = some_field(4, 5, 6)
        for below in range(1, 12):
            for above in range(below + 1):
                self.compare(field, (1, 1, 2, 0), "turned", (above, below))
        for share in ((0, 1000), (1, 1000), (500, 1000), (999, 1000), (1000, 1000), (997, 998)):
            self.compare(field, (1, 1, 2, 0), "round", share)

    def test_twelve_rows_and_columns(self):
        for holes in (0, 2, 9):
            field = some_field(12, 12, holes)
            for k, rule in enumerate(RULES):
                self.compare(field, (6, 6, 6, 6), rule, SHARES[k])
                self.compare(field, (0, 2, 3, 1), rule, SHARES[k])

    def test_far_numbers(self):
        field = ((MOST, -MOST, 0), (None, MOST, -MOST))
        for rule in RULES:
            for share in SHARES:
                self.compare(field, (1, 1, 1, 1), rule, share)

    def compare(self, field, window, rule, share):
        wanted = filtered(field, window, rule, share)
        got = slid(field, window, rule, share)[0]
        if got != wanted:
            self.fail(f"{field}, {window}, {rule}, {share}: {got}, not {wanted}")


class OneCellChanged(unittest.TestCase):
    # The field of the cells' own places tells, for each place outside, which cell of the field lies there.
    def holds(self, height, width, window, rule, i, j, cell):
        numbered = tuple(tuple(r * width + c for c in range(width)) for r in range(height))
        if isinstance(rule, tuple):
            rule = "there"
        wanted = (cell[0] * width + cell[1],)
        return any(stands_at(numbered, rule, r, c) == wanted for r, c in places_held(window, i, j))

    def look(self, field, window, rule, share, cell, new):
        height, width = len(field), len(field[0])
        rows = [list(row) for row in field]
        rows[cell[0]][cell[1]] = new
        changed = tuple(tuple(row) for row in rows)
        for tell in (filtered, lambda *asked: slid(*asked)[0]):
            ahead = tell(field, window, rule, share)
            behind = tell(changed, window, rule, share)
            for i in range(height):
                for j in range(width):
                    if not self.holds(height, width, window, rule, i, j, cell):
                        self.assertEqual(ahead[i][j], behind[i][j])
                    elif share == (1, 1) and new == MOST:
                        self.assertEqual(behind[i][j], MOST)

    def test_only_the_places_whose_windows_hold_it_change(self):
        for height, width in ((1, 1), (1, 6), (5, 1), (4, 5)):
            for holes in (0, 3):
                field = some_field(height, width, holes)
                for rule in RULES:
                    for window in ((0, 0, 0, 0), (1, 0, 0, 1), (0, 1, 2, 0)):
                        for cell in ((0, 0), (height - 1, width - 1), (height // 2, width // 2)):
                            self.look(field, window, rule, (1, 1), cell, MOST)
                            self.look(field, window, rule, (1, 2), cell, -5)
                            self.look(field, window, rule, (0, 1), cell, None)


class AskedAgain(unittest.TestCase):
    def test_the_same_behind_other_questions(self):
        field = some_field(3, 4, 3)
        asked = [(window, rule, share) for window in WINDOWS[:8] for rule in RULES for share in SHARES[:2]]
        fields = [slid(field, window, rule, share) for window, rule, share in asked]
        moved = [moves(3, 4, window, rule) for window, rule, share in asked]
        for window, rule, share in reversed(asked):
            slid(some_field(2, 2, 2), window, rule, share)
            moves(2, 5, window, rule)
        self.assertEqual([slid(field, window, rule, share) for window, rule, share in asked], fields)
        self.assertEqual([moves(3, 4, window, rule) for window, rule, share in asked], moved)

    def test_nothing_handed_in_is_changed(self):
        field = some_field(3, 3, 4)
        window = (1, 2, 0, 1)
        rule = ("told", 5)
        slid(field, window, rule, (1, 2))
        moves(3, 3, window, rule)
        self.assertEqual((field, window, rule), (some_field(3, 3, 4), (1, 2, 0, 1), ("told", 5)))


if __name__ == "__main__":
    unittest.main()
