"""Points [7] and [8]: the so-manieth of numbers, and a field filtered; and [2] for these."""

import itertools
import unittest

from midwindow.cells.windows import window_cells
from midwindow.ranks.plain import filtered, so_manieth

MOST = 10 ** 9

RULES = ("there", "near", "turned", "round", ("told", 40), ("told", -MOST), ("told", None))

SHARES = ((0, 1), (1, 1), (1, 2), (2, 4), (1, 3), (2, 3), (0, 1000), (1000, 1000), (999, 1000), (1, 1000), (333, 777))

SHAPES = ((1, 1), (1, 2), (1, 7), (2, 1), (7, 1), (2, 3), (3, 2), (4, 5), (12, 12))

FIELD = (
    (1, 5, 3),
    (4, None, 6),
)


def some_numbers(how_many, seed):
    numbers = []
    at = seed * 7919 + 12345
    for k in range(how_many):
        at = (at * 1103515245 + 12345) % 2 ** 31
        numbers.append((at >> 8) % 41 - 20)
    return tuple(numbers)


def some_field(height, width, holes):
    numbers = some_numbers(height * width, height * 100 + width)
    cells = [None if holes and k % holes == holes - 1 else number for k, number in enumerate(numbers)]
    return tuple(tuple(cells[i * width:i * width + width]) for i in range(height))


# Found by counting alone, so that nothing here sorts as the program does.
def counted(numbers, share):
    if not numbers:
        return None
    place = share[0] * (len(numbers) - 1) // share[1]
    for number in numbers:
        less = len([other for other in numbers if other < number])
        alike = len([other for other in numbers if other == number])
        if less <= place < less + alike:
            return number


def plainly(field, window, rule, share):
    return tuple(
        tuple(
            counted([cell for cell in window_cells(field, window, rule, i, j) if cell is not None], share)
            for j in range(len(field[0]))
        )
        for i in range(len(field))
    )


class SoManieth(unittest.TestCase):
    def test_of_none(self):
        for share in SHARES:
            self.assertIsNone(so_manieth((), share))

    def test_of_one(self):
        for share in SHARES:
            for number in (0, 7, -7, MOST, -MOST):
                with self.subTest(share=share, number=number):
                    self.assertEqual(so_manieth((number,), share), number)
                    self.assertIs(type(so_manieth((number,), share)), int)

    def test_of_several_in_any_order(self):
        wanted = {(0, 1): 1, (1, 1): 5, (1, 2): 3, (1, 3): 2, (2, 3): 3, (1, 4): 2, (3, 4): 4, (99, 100): 4}
        for numbers in itertools.permutations((1, 2, 3, 4, 5)):
            for share, number in wanted.items():
                self.assertEqual(so_manieth(numbers, share), number)

    def test_the_lesser_middle_one(self):
        self.assertEqual(so_manieth((9, 2), (1, 2)), 2)
        self.assertEqual(so_manieth((9, 2, 5), (1, 2)), 5)
        self.assertEqual(so_manieth((9, 2, 5, 7), (1, 2)), 5)
        self.assertEqual(so_manieth((9, 2, 5, 7, 6), (1, 2)), 6)
        self.assertEqual(so_manieth((-9, -2, -5, -7), (1, 2)), -7)

    def test_alike_ones_come_as_often_as_they_are_there(self):
        self.assertEqual(so_manieth((4, 4, 4), (1, 2)), 4)
        self.assertEqual(so_manieth((8, 1, 8, 8, 2), (1, 2)), 8)
        self.assertEqual(so_manieth((1, 8, 1, 1, 2), (1, 2)), 1)
        self.assertEqual(so_manieth((3, 1, 3, 1), (1, 2)), 1)
        self.assertEqual(so_manieth((3, 1, 3, 1), (2, 3)), 3)
        self.assertEqual(so_manieth((5, 5, 5, 9), (2, 3)), 5)

    def test_below_nought_and_far(self):
        numbers = (MOST, -MOST, 0, -1, 1)
        self.assertEqual([so_manieth(numbers, (k, 4)) for k in range(5)], [-MOST, -1, 0, 1, MOST])

    def test_numbers_rise_as_numbers_not_as_texts(self):
        self.assertEqual([so_manieth((10, 9, 100, -10, -9), (k, 4)) for k in range(5)], [-10, -9, 9, 10, 100])

    def test_shares_of_numbers_to_a_thousand(self):
        numbers = tuple(range(500, 0, -1))
        for share, number in (((0, 1000), 1), ((1, 1000), 1), ((2, 1000), 1), ((3, 1000), 2), ((500, 1000), 250),
                              ((999, 1000), 499), ((1000, 1000), 500), ((998, 999), 499), ((1, 999), 1),
                              ((1, 499), 2), ((1, 500), 1), ((333, 1000), 167), ((997, 1000), 498)):
            with self.subTest(share=share):
                self.assertEqual(so_manieth(numbers, share), number)

    def test_each_place_of_five_hundred(self):
        numbers = tuple((k * 37) % 500 for k in range(500))
        for place in range(500):
            self.assertEqual(so_manieth(numbers, (place, 499)), place)

    def test_the_same_share_so_many_times(self):
        for how_many in (1, 2, 3, 10, 499, 500):
            numbers = some_numbers(how_many, how_many)
            for times in (1, 2, 3, 250, 333):
                with self.subTest(how_many=how_many, times=times):
                    for share in ((0, 1), (1, 1), (1, 2), (1, 3), (2, 3)):
                        self.assertEqual(so_manieth(numbers, (share[0] * times, share[1] * times)),
                                         so_manieth(numbers, share))

    def test_as_counted(self):
        for how_many in list(range(1, 14)) + [99, 169, 499, 500]:
            numbers = some_numbers(how_many, how_many + 3)
            for share in SHARES:
                self.assertEqual(so_manieth(numbers, share), counted(numbers, share))

    def test_by_name_in_any_order(self):
        self.assertEqual(so_manieth(share=(1, 1), numbers=(1, 3, 2)), 3)
        self.assertEqual(so_manieth(numbers=(1, 3, 2), share=(0, 1)), 1)


class Filtered(unittest.TestCase):
    def told(self, window, share, *wanted):
        for rule, field in wanted:
            with self.subTest(window=window, share=share, rule=rule):
                self.assertEqual(filtered(FIELD, window, rule, share), field)

    def test_a_window_of_one_place_tells_the_field(self):
        for height, width in SHAPES:
            for holes in (0, 1, 2, 5):
                field = some_field(height, width, holes)
                for rule in RULES:
                    for share in SHARES:
                        self.assertEqual(filtered(field, (0, 0, 0, 0), rule, share), field)

    def test_the_greatest_by_each_rule(self):
        self.told(
            (0, 0, 1, 1), (1, 1),
            ("there", ((5, 5, 5), (4, 6, 6))),
            ("near", ((5, 5, 5), (4, 6, 6))),
            ("turned", ((5, 5, 5), (4, 6, 6))),
            ("round", ((5, 5, 5), (6, 6, 6))),
            (("told", 9), ((9, 5, 9), (9, 6, 9))),
            (("told", None), ((5, 5, 5), (4, 6, 6))),
        )

    def test_the_middle_one_by_each_rule(self):
        self.told(
            (0, 0, 1, 1), (1, 2),
            ("there", ((1, 3, 3), (4, 4, 6))),
            ("near", ((1, 3, 3), (4, 4, 6))),
            ("turned", ((1, 3, 3), (4, 4, 6))),
            ("round", ((3, 3, 3), (4, 4, 4))),
            (("told", 9), ((5, 3, 5), (4, 4, 6))),
            (("told", 0), ((1, 3, 3), (0, 4, 0))),
            (("told", None), ((1, 3, 3), (4, 4, 6))),
        )

    def test_the_least_with_unlike_sides(self):
        self.told(
            (1, 0, 0, 2), (0, 1),
            ("there", ((1, 3, 3), (1, 3, 3))),
            ("near", ((1, 3, 3), (1, 3, 3))),
            ("turned", ((1, 3, 3), (1, 3, 3))),
            ("round", ((1, 1, 1), (1, 1, 1))),
            (("told", 2), ((1, 2, 2), (1, 2, 2))),
            (("told", None), ((1, 3, 3), (1, 3, 3))),
        )

    def test_turned_is_neither_near_nor_round(self):
        field = ((7, 1, 9, 4),)
        for rule, wanted in (("near", ((7, 1, 1, 1),)), ("turned", ((1, 1, 1, 1),)), ("round", ((4, 1, 1, 1),))):
            with self.subTest(rule=rule):
                self.assertEqual(filtered(field, (0, 0, 2, 0), rule, (0, 1)), wanted)

    def test_each_side_looks_its_own_way(self):
        field = ((1, 2, 3), (4, 5, 6), (7, 8, 9))
        for window, wanted in (((1, 0, 0, 0), ((1, 2, 3), (1, 2, 3), (4, 5, 6))),
                               ((0, 0, 1, 0), ((1, 1, 2), (4, 4, 5), (7, 7, 8)))):
            self.assertEqual(filtered(field, window, "there", (0, 1)), wanted)
        for window, wanted in (((0, 1, 0, 0), ((4, 5, 6), (7, 8, 9), (7, 8, 9))),
                               ((0, 0, 0, 1), ((2, 3, 3), (5, 6, 6), (8, 9, 9)))):
            self.assertEqual(filtered(field, window, "there", (1, 1)), wanted)

    def test_holes(self):
        self.assertEqual(filtered(((None, 3, None, None, None),), (0, 0, 1, 1), "there", (1, 2)),
                         ((3, 3, 3, None, None),))
        self.assertEqual(filtered(((None, 3, None, None, None),), (0, 0, 1, 1), "round", (1, 2)),
                         ((3, 3, 3, None, None),))
        self.assertEqual(filtered(((3, None, None, None),), (0, 0, 1, 1), "round", (1, 2)), ((3, 3, None, 3),))
        self.assertEqual(filtered(((None, None),), (0, 0, 1, 1), ("told", 8), (1, 2)), ((8, 8),))
        self.assertEqual(filtered(((None, None, None),), (0, 0, 1, 1), ("told", 8), (1, 2)), ((8, None, 8),))

    def test_only_holes(self):
        for height, width in SHAPES:
            field = some_field(height, width, 1)
            for rule in ("there", "near", "turned", "round", ("told", None)):
                self.assertEqual(filtered(field, (6, 6, 6, 6), rule, (1, 2)), field)

    def test_the_number_nought_is_no_hole(self):
        self.assertEqual(filtered(((0, 0), (0, None)), (1, 1, 1, 1), "there", (1, 1)), ((0, 0), (0, 0)))
        self.assertEqual(filtered(((None,),), (0, 1, 0, 0), ("told", 0), (1, 1)), ((0,),))

    def test_wider_than_the_field(self):
        self.assertEqual(filtered(((5,),), (6, 6, 6, 6), "there", (1, 2)), ((5,),))
        self.assertEqual(filtered(((5,),), (6, 6, 6, 6), ("told", 3), (1, 2)), ((3,),))
        self.assertEqual(filtered(((5,),), (6, 6, 6, 6), ("told", 3), (1, 1)), ((5,),))
        self.assertEqual(filtered(((None,),), (6, 6, 6, 6), ("told", 3), (1, 1)), ((3,),))
        self.assertEqual(filtered(((1, 2),), (0, 0, 6, 6), "round", (1, 2)), ((1, 2),))
        self.assertEqual(filtered(((1, 2),), (0, 0, 6, 6), "turned", (1, 2)), ((2, 1),))
        self.assertEqual(filtered(((1, 2),), (0, 0, 6, 6), "near", (1, 2)), ((1, 2),))
        self.assertEqual(filtered(((1, 2),), (0, 0, 6, 6), "there", (1, 2)), ((1, 1),))
        self.assertEqual(filtered(FIELD, (6, 6, 6, 6), "there", (1, 2)), ((4, 4, 4), (4, 4, 4)))

    def test_far_numbers(self):
        field = ((MOST, -MOST), (-MOST, MOST))
        self.assertEqual(filtered(field, (1, 1, 1, 1), "there", (1, 2)), ((-MOST, -MOST), (-MOST, -MOST)))
        self.assertEqual(filtered(field, (1, 1, 1, 1), "there", (2, 3)), ((MOST, MOST), (MOST, MOST)))

    def test_size_and_kinds(self):
        for height, width in SHAPES:
            for holes in (0, 1, 3):
                told = filtered(some_field(height, width, holes), (1, 2, 0, 1), "near", (1, 2))
                self.assertIs(type(told), tuple)
                self.assertEqual(len(told), height)
                for row in told:
                    self.assertIs(type(row), tuple)
                    self.assertEqual(len(row), width)
                    for cell in row:
                        self.assertIn(type(cell), (int, type(None)))

    def test_as_counted_for_sides_from_nought_to_six(self):
        for height, width in ((1, 1), (1, 7), (7, 1), (3, 4)):
            for holes in (0, 1, 3):
                field = some_field(height, width, holes)
                for rule in RULES:
                    for side in range(7):
                        for window in ((side, 0, 0, 0), (0, side, 0, 0), (0, 0, side, 0), (0, 0, 0, side),
                                       (side, 6 - side, 2, side)):
                            self.compare(field, window, rule, SHARES[(side + height) % len(SHARES)])

    def test_as_counted_for_twelve_rows_and_columns(self):
        for holes in (0, 2, 7):
            field = some_field(12, 12, holes)
            for rule in RULES:
                self.compare(field, (1, 2, 3, 0), rule, (1, 2))
            self.compare(field, (6, 6, 6, 6), "turned", (333, 777))
            self.compare(field, (6, 5, 6, 4), "there", (1, 3))

    def compare(self, field, window, rule, share):
        wanted = plainly(field, window, rule, share)
        got = filtered(field, window, rule, share)
        if got != wanted:
            self.fail(f"{field}, {window}, {rule}, {share}: {got}, not {wanted}")

    def test_by_name_in_any_order(self):
        self.assertEqual(filtered(share=(1, 1), rule="round", window=(0, 0, 1, 1), field=FIELD),
                         ((5, 5, 5), (6, 6, 6)))


class AskedAgain(unittest.TestCase):
    def test_the_same_behind_other_questions(self):
        asked = [(rule, share) for rule in RULES for share in SHARES]
        fields = [filtered(FIELD, (1, 0, 2, 1), rule, share) for rule, share in asked]
        numbers = [so_manieth((3, 1, 2, 2), share) for share in SHARES]
        for rule, share in reversed(asked):
            filtered(some_field(3, 3, 2), (0, 3, 0, 1), rule, share)
            so_manieth((9, -9), share)
        self.assertEqual([filtered(FIELD, (1, 0, 2, 1), rule, share) for rule, share in asked], fields)
        self.assertEqual([so_manieth((3, 1, 2, 2), share) for share in SHARES], numbers)

    def test_nothing_handed_in_is_changed(self):
        field = some_field(3, 3, 4)
        numbers = (3, 1, 2)
        filtered(field, (1, 1, 1, 1), ("told", 3), (1, 2))
        so_manieth(numbers, (1, 2))
        self.assertEqual(field, some_field(3, 3, 4))
        self.assertEqual(numbers, (3, 1, 2))

    def test_what_is_told_may_be_handed_on(self):
        once = filtered(((1, None, 5, 9),), (0, 0, 1, 0), "there", (1, 1))
        self.assertEqual(once, ((1, 1, 5, 9),))
        self.assertEqual(filtered(once, (0, 0, 0, 1), "there", (1, 1)), ((1, 5, 9, 9),))
        self.assertEqual(once, ((1, 1, 5, 9),))


if __name__ == "__main__":
    unittest.main()
