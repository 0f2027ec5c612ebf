"""Point [12]: cells that count so often; and [2] for it."""

import unittest

from midwindow.cells.windows import stands_at
from midwindow.ranks.plain import filtered
from midwindow.ranks.weighted import weighted

MOST = 10 ** 9

RULES = ("there", "near", "turned", "round", ("told", 4), ("told", -MOST), ("told", None))

SHARES = ((1, 2), (0, 1), (1, 1), (1, 3), (999, 1000), (2, 4), (7, 9), (1, 1000), (1000, 1000), (333, 777))

SHAPES = ((1, 1), (1, 2), (1, 6), (2, 1), (6, 1), (2, 3), (3, 2), (4, 3))

WINDOWS = ((0, 0, 0, 0), (1, 1, 1, 1), (1, 0, 0, 0), (0, 1, 0, 0), (0, 0, 1, 0), (0, 0, 0, 1), (2, 0, 1, 3),
           (0, 3, 2, 0), (0, 6, 0, 5), (5, 0, 6, 0))

FIELD = (
    (1, 5, 3),
    (4, None, 6),
)


def some_numbers(how_many, seed):
    numbers = []
    at = seed * 7919 + 12345
    for k in range(how_many):
        at = (at * 1103515245 + 12345) % 2 ** 31
        numbers.append(at >> 8)
    return numbers


def some_field(height, width, holes):
    numbers = some_numbers(height * width, height * 100 + width)
    cells = [None if holes and k % holes == holes - 1 else number % 41 - 20 for k, number in enumerate(numbers)]
    return tuple(tuple(cells[i * width:i * width + width]) for i in range(height))


def size(window):
    return window[0] + window[1] + 1, window[2] + window[3] + 1


def same_counts(window, count):
    height, width = size(window)
    return ((count,) * width,) * height


def some_counts(window, below, seed=0):
    height, width = size(window)
    numbers = [number % below for number in some_numbers(height * width, seed + 17)]
    return tuple(tuple(numbers[k * width:k * width + width]) for k in range(height))


def one_count(window, row, column, count):
    height, width = size(window)
    return tuple(tuple(count if (r, c) == (row, column) else 0 for c in range(width)) for r in range(height))


# Every number is written out as often as it counts; the program never writes them out.
def written_out(field, window, counts, rule, share, i, j):
    numbers = []
    for r, row in enumerate(counts):
        for c, count in enumerate(row):
            for cell in stands_at(field, rule, i - window[0] + r, j - window[2] + c):
                if cell is not None:
                    numbers += [cell] * count
    return sorted(numbers)[share[0] * (len(numbers) - 1) // share[1]] if numbers else None


def plainly(field, window, counts, rule, share):
    return tuple(
        tuple(written_out(field, window, counts, rule, share, i, j) for j in range(len(field[0])))
        for i in range(len(field))
    )


class Weighted(unittest.TestCase):
    def told(self, window, counts, rule, share, wanted, field=FIELD):
        with self.subTest(window=window, counts=counts, rule=rule, share=share):
            self.assertEqual(weighted(field, window, counts, rule, share), wanted)

    def compare(self, field, window, counts, rule, share):
        wanted = plainly(field, window, counts, rule, share)
        got = weighted(field, window, counts, rule, share)
        if got != wanted:
            self.fail(f"{field}, {window}, {counts}, {rule}, {share}: {got}, not {wanted}")

    def test_by_hand(self):
        left_twice = ((2, 1, 0),)
        window = (0, 0, 1, 1)
        self.told(window, left_twice, "there", (1, 2), ((1, 1, 5), (4, 4, 6)))
        self.told(window, left_twice, "near", (1, 1), ((1, 5, 5), (4, 4, 6)))
        self.told(window, left_twice, "turned", (1, 1), ((1, 5, 5), (4, 4, 6)))
        self.told(window, left_twice, "round", (1, 1), ((3, 5, 5), (6, 4, 6)))
        self.told(window, left_twice, "round", (0, 1), ((1, 1, 3), (4, 4, 6)))
        self.told(window, left_twice, "round", (1, 2), ((3, 1, 5), (6, 4, 6)))
        self.told(window, left_twice, ("told", 9), (1, 2), ((9, 1, 5), (9, 4, 6)))
        self.told(window, left_twice, ("told", None), (1, 2), ((1, 1, 5), (4, 4, 6)))

    def test_rows_and_columns_of_counts_are_not_mixed_up(self):
        self.told((1, 0, 0, 0), ((3,), (1,)), "there", (1, 2), ((1, 5, 3), (1, 5, 3)))
        self.told((1, 0, 0, 0), ((1,), (3,)), "there", (1, 2), ((1, 5, 3), (4, 5, 6)))
        self.told((0, 1, 0, 0), ((3,), (1,)), "there", (1, 2), ((1, 5, 3), (4, None, 6)))
        self.told((0, 1, 0, 0), ((1,), (3,)), "there", (1, 2), ((4, 5, 6), (4, None, 6)))
        self.told((0, 0, 0, 1), ((3, 1),), "there", (1, 1), ((5, 5, 3), (4, 6, 6)))
        self.told((0, 0, 0, 1), ((3, 1),), "there", (1, 2), ((1, 3, 3), (4, 6, 6)), ((1, 3, 3), (4, None, 6)))
        self.told((0, 1, 0, 1), ((0, 0), (0, 1)), "there", (1, 2), ((None, 6, None), (None, None, None)))
        self.told((1, 0, 1, 0), ((1, 0), (0, 0)), "there", (1, 2), ((None, None, None), (None, 1, 5)))

    def test_ninety_nine(self):
        field = ((1, 2),)
        window = (0, 0, 0, 1)
        for share, wanted in (((1, 1), 2), ((1000, 1000), 2), ((98, 99), 1), ((99, 100), 1), ((999, 1000), 1),
                              ((0, 1), 1), ((1, 2), 1)):
            self.told(window, ((99, 1),), "there", share, ((wanted, 2),), field)
        for share, wanted in (((0, 1), 1), ((1, 100), 1), ((1, 99), 2), ((1, 98), 2), ((1, 2), 2), ((0, 7), 1)):
            self.told(window, ((1, 99),), "there", share, ((wanted, 2),), field)

    def test_the_same_number_at_several_places_counts_at_each(self):
        field = ((7, 3, 7, 3, 7),)
        self.told((0, 0, 2, 2), ((1, 2, 1, 2, 1),), "there", (1, 2), ((3, 7, 3, 7, 3),), field)
        self.told((0, 0, 2, 2), ((2, 1, 1, 1, 2),), "there", (1, 2), ((7, 3, 7, 3, 7),), field)

    def test_all_nought(self):
        for height, width in SHAPES:
            field = some_field(height, width, 4)
            for window in WINDOWS:
                for rule in RULES:
                    for share in SHARES[:4]:
                        told = weighted(field, window, same_counts(window, 0), rule, share)
                        self.assertEqual(told, ((None,) * width,) * height)

    def test_nought_where_the_numbers_are(self):
        # Only holes count, or only places at which nothing stands.
        for share in SHARES:
            self.told((0, 0, 1, 0), ((99, 0),), "there", share, ((None, 1),), ((1, 2),))
            self.told((0, 0, 1, 0), ((99, 0),), ("told", None), share, ((None, 1),), ((1, 2),))
            self.told((0, 0, 0, 1), ((99, 0),), "there", share, ((None, 2),), ((None, 2),))

    def test_all_one_tells_what_filtered_tells(self):
        for height, width in SHAPES:
            for holes in (0, 1, 2, 4):
                field = some_field(height, width, holes)
                for k, window in enumerate(WINDOWS):
                    for n, rule in enumerate(RULES):
                        share = SHARES[(k + n) % len(SHARES)]
                        self.assertEqual(weighted(field, window, same_counts(window, 1), rule, share),
                                         filtered(field, window, rule, share))

    def test_nought_but_at_one_cell_tells_what_stands_there(self):
        field = some_field(3, 4, 5)
        for window in ((1, 2, 0, 3), (0, 1, 2, 1), (4, 0, 5, 0)):
            height, width = size(window)
            for rule in RULES:
                for row in range(height):
                    for column in range(width):
                        count = (1, 2, 99)[(row + column) % 3]
                        told = weighted(field, window, one_count(window, row, column, count), rule, (1, 2))
                        wanted = tuple(
                            tuple((stands_at(field, rule, i - window[0] + row, j - window[2] + column) or (None,))[0]
                                  for j in range(4))
                            for i in range(3)
                        )
                        self.assertEqual(told, wanted)

    def test_as_written_out(self):
        for height, width in SHAPES:
            for holes in (0, 1, 3):
                field = some_field(height, width, holes)
                for k, window in enumerate(WINDOWS):
                    for n, rule in enumerate(RULES):
                        share = SHARES[(k + n) % len(SHARES)]
                        self.compare(field, window, some_counts(window, (2, 4, 100)[(k + n) % 3], n), rule, share)

    def test_sides_from_nought_to_six(self):
        field = some_field(2, 3, 4)
        for side in range(7):
            for window in ((side, 0, 0, 0), (0, side, 0, 0), (0, 0, side, 0), (0, 0, 0, side), (6 - side, side, 1, side)):
                for rule in RULES:
                    self.compare(field, window, some_counts(window, 5, side), rule, (1, 2))

    def test_every_share(self):
        field = some_field(2, 3, 5)
        window = (1, 0, 1, 1)
        for below in range(1, 10):
            for above in range(below + 1):
                self.compare(field, window, some_counts(window, 4), "turned", (above, below))
        for share in SHARES:
            self.compare(field, window, some_counts(window, 100), "near", share)

    def test_twelve_rows_and_columns(self):
        for holes in (0, 5):
            field = some_field(12, 12, holes)
            for rule in RULES:
                self.compare(field, (0, 2, 3, 1), some_counts((0, 2, 3, 1), 100), rule, (2, 3))
        window = (6, 6, 6, 6)
        self.compare(field, window, some_counts(window, 9), "round", (1, 2))
        self.compare(field, window, same_counts(window, 99), "near", (999, 1000))

    def test_far_numbers(self):
        field = ((MOST, -MOST, 0), (None, MOST, -MOST))
        for rule in RULES:
            for share in SHARES:
                self.compare(field, (1, 0, 1, 1), ((1, 0, 99), (2, 3, 1)), rule, share)

    def test_kinds(self):
        told = weighted(FIELD, (0, 0, 1, 1), ((1, 2, 3),), "near", (1, 2))
        self.assertIs(type(told), tuple)
        for row in told:
            self.assertIs(type(row), tuple)
            for cell in row:
                self.assertIs(type(cell), int)

    def test_by_name_in_any_order(self):
        told = weighted(share=(1, 2), rule="there", counts=((2, 1, 0),), window=(0, 0, 1, 1), field=FIELD)
        self.assertEqual(told, ((1, 1, 5), (4, 4, 6)))


class AskedAgain(unittest.TestCase):
    def test_the_same_behind_other_questions(self):
        field = some_field(3, 4, 3)
        asked = [(window, some_counts(window, 5), rule, share)
                 for window in WINDOWS[:8] for rule in RULES for share in SHARES[:2]]
        told = [weighted(field, *question) for question in asked]
        for question in reversed(asked):
            weighted(some_field(2, 2, 2), *question)
        self.assertEqual([weighted(field, *question) for question in asked], told)

    def test_nothing_handed_in_is_changed(self):
        field = some_field(3, 3, 4)
        window = (1, 2, 0, 1)
        counts = some_counts(window, 9)
        rule = ("told", 5)
        weighted(field, window, counts, rule, (1, 2))
        self.assertEqual((field, window, counts, rule),
                         (some_field(3, 3, 4), (1, 2, 0, 1), some_counts((1, 2, 0, 1), 9), ("told", 5)))


if __name__ == "__main__":
    unittest.main()
