"""Point [3], over the whole program: whatever tells a filtered field tells the same one; and [2] over all of it."""

import unittest

from midwindow.cells.texts import field_shown
from midwindow.cells.windows import stands_at
from midwindow.kept import KeptField
from midwindow.ranks.again import again, closed, opened
from midwindow.ranks.plain import filtered
from midwindow.ranks.slid import moves, slid
from midwindow.ranks.weighted import weighted
from midwindow.whole import Desk

MOST = 10 ** 9

RULES = ("there", "near", "turned", "round", ("told", 4), ("told", -MOST), ("told", None))

SHARES = ((1, 2), (0, 1), (1, 1), (1, 3), (999, 1000), (2, 4), (7, 9), (1, 1000), (250, 1000))

SHAPES = ((1, 1), (1, 2), (1, 7), (2, 1), (7, 1), (2, 2), (2, 3), (3, 2), (4, 3), (5, 5))

WINDOWS = ((0, 0, 0, 0), (1, 1, 1, 1), (1, 0, 0, 0), (0, 1, 0, 0), (0, 0, 1, 0), (0, 0, 0, 1), (2, 0, 1, 3),
           (0, 3, 2, 0), (6, 6, 6, 6), (0, 6, 0, 5), (5, 0, 6, 0), (3, 4, 5, 6))


def some_field(height, width, holes, seed=0):
    cells = []
    at = height * 1000 + width * 10 + holes + seed * 7919
    for k in range(height * width):
        at = (at * 1103515245 + 12345) % 2 ** 31
        hole = holes == 1 or holes and (at >> 20) % holes == 0
        cells.append(None if hole else (at >> 8) % 23 - 11)
    return tuple(tuple(cells[i * width:i * width + width]) for i in range(height))


def of_holes(field):
    return tuple((None,) * len(row) for row in field)


# By the document's words alone: the numbers of the window's places, sorted.
def by_sorting(field, window, rule, share):
    def at(i, j):
        up, down, left, right = window
        cells = [stands_at(field, rule, r, c) for r in range(i - up, i + down + 1) for c in range(j - left, j + right + 1)]
        numbers = sorted(cell[0] for cell in cells if cell not in ((), (None,)))
        return numbers[share[0] * (len(numbers) - 1) // share[1]] if numbers else None

    return tuple(tuple(at(i, j) for j in range(len(field[0]))) for i in range(len(field)))


def by_counts_of_one(field, window, rule, share):
    counts = ((1,) * (window[2] + window[3] + 1),) * (window[0] + window[1] + 1)
    return weighted(field, window, counts, rule, share)


def by_keeping(field, window, rule, share):
    return KeptField(field, window, rule, share).told_now()


def by_changes_alone(field, window, rule, share):
    kept = KeptField(of_holes(field), window, rule, share)
    for i, row in enumerate(field):
        for j, cell in enumerate(row):
            kept.change(i, j, cell)
    return kept.told_now()


def by_the_desk(field, window, rule, share):
    desk = Desk()
    desk.ask("field " + field_shown(field).replace("\n", ";"))
    desk.ask("window " + " ".join(str(side) for side in window))
    desk.ask("edge " + ("told " + field_shown(((rule[1],),)) if isinstance(rule, tuple) else rule))
    desk.ask(f"share {share[0]} {share[1]}")
    lines = desk.ask("filter")
    return tuple(tuple(None if word == "." else int(word) for word in line.split(" ")) for line in lines)


WAYS = (filtered, lambda *asked: slid(*asked)[0], by_counts_of_one, by_keeping, by_changes_alone, by_the_desk)


class Alike(unittest.TestCase):
    def compare(self, field, window, rule, share, ways=WAYS):
        wanted = by_sorting(field, window, rule, share)
        for k, way in enumerate(ways):
            got = way(field, window, rule, share)
            if got != wanted:
                self.fail(f"way {k}: {field}, {window}, {rule}, {share}: {got}, not {wanted}")
        once = ("still", field, 0) if wanted == field else ("open", wanted)
        self.assertEqual(again(field, window, rule, share, 1), once)

    def test_many_fields(self):
        for k, (height, width) in enumerate(SHAPES):
            for holes in (0, 1, 2, 5):
                field = some_field(height, width, holes)
                for m, window in enumerate(WINDOWS):
                    for n, rule in enumerate(RULES):
                        ways = WAYS if (m + n + k) % 4 == 0 else WAYS[:4]
                        self.compare(field, window, rule, SHARES[(k + m + n) % len(SHARES)], ways)

    def test_every_share(self):
        field = some_field(3, 4, 6)
        for below in range(1, 9):
            for above in range(below + 1):
                self.compare(field, (1, 1, 2, 0), RULES[(above + below) % len(RULES)], (above, below))
        for share in SHARES:
            self.compare(field, (1, 1, 2, 0), "round", share)

    def test_twelve_rows_and_columns(self):
        for holes in (0, 3):
            field = some_field(12, 12, holes)
            for k, rule in enumerate(RULES):
                self.compare(field, (0, 2, 3, 1), rule, SHARES[k], WAYS[:4])
            self.compare(field, (1, 0, 1, 2), "turned", (1, 2))
            self.compare(field, (6, 6, 6, 6), "round", (1, 2), WAYS[:4])

    def test_fields_that_were_told_are_handed_on(self):
        for rule in RULES:
            field = some_field(4, 5, 4)
            for share in SHARES:
                self.compare(field, (1, 0, 1, 1), rule, share)
                field = slid(field, (1, 0, 1, 1), rule, share)[0]

    def test_what_comes_in_and_goes_out(self):
        for height, width in SHAPES:
            field = some_field(height, width, 0)
            for window in WINDOWS:
                for rule in RULES:
                    for share in SHARES[:2]:
                        self.assertEqual(slid(field, window, rule, share)[1], moves(height, width, window, rule))

    def test_the_desk_tells_what_comes_in_and_goes_out(self):
        for holes in (0, 3):
            field = some_field(4, 5, holes)
            desk = Desk()
            desk.ask("field " + field_shown(field).replace("\n", ";"))
            for window in WINDOWS:
                desk.ask("window " + " ".join(str(side) for side in window))
                for rule in ("there", "near", "turned", "round"):
                    desk.ask("edge " + rule)
                    self.assertEqual(desk.ask("moves"), [str(slid(field, window, rule, (1, 2))[1])])

    def test_least_over_greatest_as_filtered(self):
        for height, width in SHAPES:
            field = some_field(height, width, 0)
            for up, down, left, right in WINDOWS:
                window, back = (up, down, left, right), (down, up, right, left)
                for change, first, second in ((closed, (1, 1), (0, 1)), (opened, (0, 1), (1, 1))):
                    wanted = by_sorting(by_sorting(field, window, "there", first), back, "there", second)
                    self.assertEqual(change(field, window), wanted)
                    self.assertEqual(change(wanted, window), wanted)


class AskedAgain(unittest.TestCase):
    def test_the_same_behind_other_questions(self):
        asked = [(some_field(3, 4, holes), window, rule, share)
                 for holes in (0, 3) for window in WINDOWS[:7] for rule in RULES for share in SHARES[:2]]
        told = [[way(*question) for way in WAYS] for question in asked]
        told.reverse()
        self.assertEqual([[way(*question) for way in WAYS] for question in reversed(asked)], told)


if __name__ == "__main__":
    unittest.main()
