"""Points [13] and [14]: a field filtered again and again, closed and opened; [3]'s last sentence; [2] for these."""

import unittest

from midwindow.ranks.again import again, closed, opened
from midwindow.ranks.plain import filtered

MOST = 10 ** 9

RULES = ("there", "near", "turned", "round", ("told", 4), ("told", -MOST), ("told", None))

SHARES = ((1, 2), (0, 1), (1, 1), (1, 3), (3, 4), (2, 5), (999, 1000))

SHAPES = ((1, 1), (1, 2), (1, 6), (2, 1), (6, 1), (2, 3), (3, 2), (4, 4))

WINDOWS = ((0, 0, 0, 0), (1, 1, 1, 1), (1, 0, 0, 0), (0, 1, 0, 0), (0, 0, 1, 0), (0, 0, 0, 1), (2, 0, 1, 3),
           (0, 3, 2, 0), (2, 2, 2, 2), (6, 6, 6, 6), (0, 6, 0, 5), (5, 0, 6, 0))


def some_field(height, width, holes, seed=0, kinds=9):
    cells = []
    at = height * 1000 + width * 10 + holes + seed * 7919
    for k in range(height * width):
        at = (at * 1103515245 + 12345) % 2 ** 31
        hole = holes == 1 or holes and (at >> 20) % holes == 0
        cells.append(None if hole else (at >> 8) % kinds)
    return tuple(tuple(cells[i * width:i * width + width]) for i in range(height))


# All the fields first, and then looked at pair by pair in the order of the document's words.
def looked_at(field, window, rule, share, most):
    fields = [field]
    while len(fields) <= most:
        fields.append(filtered(fields[-1], window, rule, share))
    for times in range(most):
        if fields[times + 1] == fields[times]:
            return ("still", fields[times], times)
    for number in range(most + 1):
        for times in range(number):
            if fields[number] == fields[times]:
                return ("round", fields[times], times, number - times)
    return ("open", fields[most])


class Again(unittest.TestCase):
    # Told with just so many times let as it needs and with more; with one less, and with fewer, it is open.
    def settles(self, fields, window, rule, share, word, times, ring):
        need = times + ring
        numbers = (times,) if word == "still" else (times, ring)
        with self.subTest(field=fields[0], window=window, rule=rule, share=share):
            for most in (need, need + 1, need + 7):
                self.assertEqual(again(fields[0], window, rule, share, most), (word, fields[times]) + numbers)
            for most in range(need):
                self.assertEqual(again(fields[0], window, rule, share, most), ("open", fields[most]))

    def test_still_at_once(self):
        for rule in RULES:
            for field in (((5,),), ((None,),), ((3, 1, 2), (9, None, 0))):
                self.settles((field,), (0, 0, 0, 0), rule, (1, 2), "still", 0, 1)
        self.settles((((7, 7), (7, 7)),), (1, 1, 1, 1), "near", (1, 3), "still", 0, 1)
        self.settles((((None, None),),), (1, 1, 1, 1), "there", (1, 2), "still", 0, 1)
        self.settles((((1, 2, 3),),), (0, 0, 1, 0), ("told", None), (1, 1), "still", 0, 1)

    def test_still_behind_some_times(self):
        self.settles((((1, 2, 3, 4),), ((1, 1, 2, 3),), ((1, 1, 1, 2),), ((1, 1, 1, 1),)),
                     (0, 0, 1, 0), "there", (0, 1), "still", 3, 1)
        self.settles((((1, 2, 3),), ((2, 3, 3),), ((3, 3, 3),)), (0, 0, 0, 1), "near", (1, 1), "still", 2, 1)
        self.settles((((1, 2, 3),), ((2, 3, 3),), ((3, 3, 3),)), (0, 0, 0, 1), "turned", (1, 1), "still", 2, 1)
        self.settles((((3, 2, 1),), ((3, 2, 3),), ((3, 3, 3),)), (0, 0, 0, 1), "round", (1, 1), "still", 2, 1)
        self.settles((((1, 2, 3),), ((9, 2, 3),), ((9, 9, 3),), ((9, 9, 9),)),
                     (0, 0, 1, 0), ("told", 9), (1, 1), "still", 3, 1)
        self.settles((((3,), (2,), (5,)), ((3,), (3,), (5,))), (1, 0, 0, 0), "there", (1, 1), "still", 1, 1)

    def test_still_with_holes(self):
        fields = (((5, None, None, None),), ((5, 5, None, None),), ((5, 5, 5, None),), ((5, 5, 5, 5),))
        for rule in ("there", "near", ("told", None)):
            self.settles(fields, (0, 0, 1, 0), rule, (1, 2), "still", 3, 1)
        self.settles((((None, 5, None),), ((None, 5, 5),), ((5, 5, 5),)), (0, 0, 1, 0), "round", (1, 2), "still", 2, 1)
        self.settles((((None, 4), (None, None)), ((4, 4), (None, None))), (0, 0, 1, 1), "there", (1, 2), "still", 1, 1)

    def test_round_at_once(self):
        self.settles((((0, 1, 0, 1),), ((1, 0, 1, 0),)), (0, 0, 1, 1), "round", (1, 2), "round", 0, 2)
        self.settles((((0,), (1,)), ((1,), (0,))), (1, 1, 0, 0), "round", (1, 2), "round", 0, 2)
        self.settles((((0, 1),), ((1, 0),)), (0, 0, 2, 2), "turned", (1, 2), "round", 0, 2)

    def test_greater_rings(self):
        # The middle one of a cell and the two to its right: a block of ones goes one place to the left each time.
        for width, block in ((4, 2), (5, 3), (6, 3), (7, 4), (8, 2), (12, 5)):
            fields = tuple(
                (tuple(1 if (j + times) % width < block else 0 for j in range(width)),) for times in range(width)
            )
            self.settles(fields, (0, 0, 0, 2), "round", (1, 2), "round", 0, width)

    def test_round_behind_some_times(self):
        ahead = ((1, 1, 1, 0, 0, 1, 0, 0),)
        fields = tuple((tuple(1 if (j + times) % 8 < 3 else 0 for j in range(8)),) for times in range(9))
        self.settles((ahead,) + fields[1:], (0, 0, 0, 2), "round", (1, 2), "round", 1, 8)

    def test_round_with_holes(self):
        holes = (None,) * 4
        self.settles((((0, 1, 0, 1), holes), ((1, 0, 1, 0), holes)), (0, 0, 1, 1), "round", (1, 2), "round", 0, 2)
        self.settles((((0, None), (1, None)), ((1, None), (0, None))), (1, 1, 0, 0), "round", (1, 2), "round", 0, 2)

    def test_no_times_is_always_open(self):
        for rule in RULES:
            for window in WINDOWS:
                for field in (((5,),), ((None,),), ((7, 7), (7, 7)), ((0, 1, 0, 1),)):
                    self.assertEqual(again(field, window, rule, (1, 2), 0), ("open", field))

    def test_as_looked_at(self):
        for height, width in SHAPES:
            for holes in (0, 3):
                field = some_field(height, width, holes)
                for k, window in enumerate(WINDOWS[:9]):
                    for n, rule in enumerate(RULES):
                        self.compare(field, window, rule, SHARES[(k + n) % len(SHARES)], (k * 5 + n) % 14)

    def test_as_looked_at_for_noughts_and_ones(self):
        for seed in range(120):
            field = some_field(1 + seed % 2, 3 + seed % 4, 0, seed, 2)
            for window in ((0, 0, 0, 2), (1, 1, 2, 2), (0, 1, 2, 0), (0, 0, 3, 1)):
                self.compare(field, window, ("round", "turned")[seed // 2 % 2], SHARES[seed % 3 * 2], 4 + seed % 17)

    def test_all_three_words_come_in_these_tests(self):
        told = {}
        for seed in range(40):
            field = some_field(1, 6, 0, seed, 2)
            for most in (2, 5, 9):
                answer = again(field, (0, 0, 0, 2), "round", (1, 2), most)
                self.assertEqual(answer, looked_at(field, (0, 0, 0, 2), "round", (1, 2), most))
                told[answer[0]] = True
        self.assertEqual(sorted(told), ["open", "round", "still"])

    def compare(self, field, window, rule, share, most):
        wanted = looked_at(field, window, rule, share, most)
        got = again(field, window, rule, share, most)
        if got != wanted:
            self.fail(f"{field}, {window}, {rule}, {share}, {most}: {got}, not {wanted}")

    def test_twelve_rows_and_columns(self):
        for holes in (0, 4):
            field = some_field(12, 12, holes, kinds=50)
            self.compare(field, (1, 1, 1, 1), "turned", (1, 2), 8)
            self.compare(field, (6, 6, 6, 6), "near", (1, 2), 5)
            self.compare(field, (2, 0, 1, 3), "there", (1, 1), 12)

    def test_kinds(self):
        told = (again(((0, 1),), (0, 0, 0, 0), "there", (1, 2), 3), again(((0, 1),), (0, 0, 2, 2), "turned", (1, 2), 3),
                again(((0, 1),), (0, 0, 1, 0), "there", (1, 2), 1))
        self.assertEqual([len(answer) for answer in told], [3, 4, 2])
        for answer in told:
            self.assertIs(type(answer), tuple)
            self.assertIs(type(answer[0]), str)
            self.assertEqual({type(row) for row in answer[1]} | {type(answer[1])}, {tuple})
            self.assertLessEqual({type(number) for number in answer[2:]}, {int})

    def test_by_name_in_any_order(self):
        self.assertEqual(again(most=4, share=(0, 1), rule="there", window=(0, 0, 1, 0), field=((1, 2, 3, 4),)),
                         ("still", ((1, 1, 1, 1),), 3))


# For each cell the windows that hold it are searched out, so that nothing here turns a window over.
def over_the_windows(field, window, inner, outer):
    height, width = len(field), len(field[0])
    places = [(i, j) for i in range(height) for j in range(width)]

    def held(i, j):
        up, down, left, right = window
        return [(r, c) for r, c in places if i - up <= r <= i + down and j - left <= c <= j + right]

    of_window = {place: inner(field[r][c] for r, c in held(*place)) for place in places}
    return tuple(
        tuple(outer(of_window[place] for place in places if (i, j) in held(*place)) for j in range(width))
        for i in range(height)
    )


class ClosedAndOpened(unittest.TestCase):
    def told(self, field, window, closed_field, opened_field):
        with self.subTest(field=field, window=window):
            self.assertEqual(closed(field, window), closed_field)
            self.assertEqual(opened(field, window), opened_field)

    def test_by_hand(self):
        row = ((3, 1, 4, 1, 5),)
        self.told(row, (0, 0, 0, 1), ((3, 3, 4, 4, 5),), ((1, 1, 1, 1, 5),))
        self.told(row, (0, 0, 1, 0), ((3, 3, 4, 4, 5),), ((3, 1, 1, 1, 1),))
        self.told(row, (0, 0, 1, 1), ((3, 3, 4, 4, 5),), ((1, 1, 1, 1, 1),))
        self.told(((1, 5, 2),), (0, 0, 0, 1), ((5, 5, 2),), ((1, 2, 2),))
        self.told(((1, 5, 2),), (0, 0, 1, 0), ((1, 5, 5),), ((1, 2, 2),))
        self.told(((1,), (5,), (2,)), (0, 1, 0, 0), ((5,), (5,), (2,)), ((1,), (2,), (2,)))
        self.told(((1,), (5,), (2,)), (1, 0, 0, 0), ((1,), (5,), (5,)), ((1,), (2,), (2,)))

    def test_rows_and_columns(self):
        field = ((0, 9, 1), (8, 2, 7), (3, 6, 4))
        # Greatest of a cell, those right and below: 9 9 7, 8 7 7, 6 6 4; then least of a cell, those left and above.
        self.told(field, (0, 1, 0, 1), ((9, 9, 7), (8, 7, 7), (6, 6, 4)), ((0, 1, 1), (2, 2, 4), (3, 4, 4)))

    def test_the_least_window(self):
        for height, width in SHAPES:
            field = some_field(height, width, 0)
            self.told(field, (0, 0, 0, 0), field, field)

    def test_windows_wider_than_the_field(self):
        field = ((4, 2), (7, 3), (5, 6))
        self.told(field, (6, 6, 6, 6), ((7, 7),) * 3, ((2, 2),) * 3)
        self.told(((4,),), (6, 6, 6, 6), ((4,),), ((4,),))

    def test_as_searched_out(self):
        for height, width in SHAPES + ((5, 7), (12, 12)):
            field = some_field(height, width, 0)
            for window in WINDOWS if height < 12 else WINDOWS[6:9]:
                self.told(field, window, over_the_windows(field, window, max, min),
                          over_the_windows(field, window, min, max))

    def test_done_again_each_changes_nothing(self):
        for height, width in SHAPES + ((5, 7), (12, 12)):
            for seed in range(3):
                field = some_field(height, width, 0, seed)
                for window in WINDOWS:
                    for change in (closed, opened):
                        once = change(field, window)
                        self.assertEqual(change(once, window), once)

    def test_one_over_the_other_done_again_changes_nothing(self):
        for height, width in SHAPES + ((5, 7),):
            for seed in range(3):
                for window in WINDOWS:
                    field = some_field(height, width, 0, seed)
                    once = opened(closed(field, window), window)
                    self.assertEqual(opened(closed(once, window), window), once)
                    once = closed(opened(field, window), window)
                    self.assertEqual(closed(opened(once, window), window), once)

    def test_nowhere_less_and_nowhere_greater(self):
        for height, width in SHAPES + ((5, 7), (12, 12)):
            field = some_field(height, width, 0, 5)
            for window in WINDOWS:
                for row, over, under in zip(field, closed(field, window), opened(field, window)):
                    self.assertTrue(all(number <= greater for number, greater in zip(row, over)))
                    self.assertTrue(all(number >= less for number, less in zip(row, under)))

    def test_far_numbers(self):
        self.told(((MOST, -MOST, 0),), (0, 0, 0, 1), ((MOST, 0, 0),), ((-MOST, -MOST, 0),))

    def test_kinds(self):
        for told in (closed(((1, 2), (3, 0)), (0, 1, 0, 1)), opened(((1, 2), (3, 0)), (0, 1, 0, 1))):
            self.assertEqual({type(row) for row in told} | {type(told)}, {tuple})
            self.assertEqual({type(cell) for row in told for cell in row}, {int})

    def test_by_name_in_any_order(self):
        self.assertEqual(closed(window=(0, 0, 0, 1), field=((1, 5, 2),)), ((5, 5, 2),))
        self.assertEqual(opened(window=(0, 0, 0, 1), field=((1, 5, 2),)), ((1, 2, 2),))


class AskedAgain(unittest.TestCase):
    def test_the_same_behind_other_questions(self):
        field = some_field(3, 4, 0)
        asked = [(window, rule, share) for window in WINDOWS[:8] for rule in RULES for share in SHARES[:2]]
        told = [again(field, *question, 6) for question in asked]
        sides = [(closed(field, window), opened(field, window)) for window in WINDOWS]
        for question in reversed(asked):
            again(some_field(2, 2, 2), *question, 5)
            closed(some_field(2, 3, 0), question[0])
        self.assertEqual([again(field, *question, 6) for question in asked], told)
        self.assertEqual([(closed(field, window), opened(field, window)) for window in WINDOWS], sides)

    def test_nothing_handed_in_is_changed(self):
        field = some_field(3, 3, 0)
        window = (1, 2, 0, 1)
        again(field, window, ("told", 5), (1, 2), 9)
        closed(field, window)
        opened(field, window)
        self.assertEqual((field, window), (some_field(3, 3, 0), (1, 2, 0, 1)))


if __name__ == "__main__":
    unittest.main()
