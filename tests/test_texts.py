"""Point [4]: fields as texts; and [2] for reading and writing them."""

import unittest

from midwindow.cells.texts import field_shown, read_field
from midwindow.errors import NoField, WindowError

MOST = 10 ** 9

PAIRS = (
    ("0", ((0,),)),
    (".", ((None,),)),
    ("7", ((7,),)),
    ("-7", ((-7,),)),
    ("10", ((10,),)),
    ("-10", ((-10,),)),
    ("100 -200", ((100, -200),)),
    ("1 2 3", ((1, 2, 3),)),
    ("1\n2\n3", ((1,), (2,), (3,))),
    ("1 2\n3 4", ((1, 2), (3, 4))),
    (". 0 .\n-1 . 1\n5 5 5", ((None, 0, None), (-1, None, 1), (5, 5, 5))),
    (".\n.", ((None,), (None,))),
    (". .", ((None, None),)),
    ("1000000000 -1000000000", ((MOST, -MOST),)),
    ("1234567890", ((1234567890,),)),
)

NO_CELLS = (
    "-0", "00", "07", "-07", "-00", "-", "--1", "--", "+1", "+0", "+", "1.", "..", ".5", "-.", ".-", "0.", "1.5",
    "a", "x1", "1x", "1e3", "0x1", "0b1", "None", "1_000", "_1", "1_", "_", "1,2", "1;2", ",", ";", "1-", "1-2", "~",
    "(1)", "'1'", "!", "\t", "1\t2", "1\r",
)


def large_field():
    rows = []
    for i in range(12):
        rows.append(tuple(None if (i * j) % 5 == 3 else (-1) ** (i + j) * (MOST - i * 12 - j) for j in range(12)))
    return tuple(rows)


class Reading(unittest.TestCase):
    def refused_row(self, text):
        with self.assertRaises(NoField) as caught:
            read_field(text)
        self.assertIs(type(caught.exception), NoField)
        self.assertIs(type(caught.exception.row), int)
        return caught.exception.row

    def test_ordinary_texts(self):
        for text, field in PAIRS:
            with self.subTest(text=text):
                self.assertEqual(read_field(text), field)

    def test_twelve_rows_and_columns(self):
        field = large_field()
        text = "\n".join(" ".join("." if cell is None else str(cell) for cell in row) for row in field)
        self.assertEqual(read_field(text), field)

    def test_kinds(self):
        field = read_field("1 .\n-3 0")
        self.assertIs(type(field), tuple)
        for row in field:
            self.assertIs(type(row), tuple)
        self.assertEqual([type(cell) for row in field for cell in row], [int, type(None), int, int])

    def test_nothing_is_refused_for_its_size(self):
        self.assertEqual(read_field("1000000001 -1000000001"), ((MOST + 1, -MOST - 1),))
        self.assertEqual(read_field("\n".join(["1"] * 13)), ((1,),) * 13)
        self.assertEqual(read_field(" ".join(["."] * 13)), ((None,) * 13,))
        self.assertEqual(read_field("9" * 4000), ((10 ** 4000 - 1,),))

    def test_the_empty_text(self):
        self.assertEqual(self.refused_row(""), 0)

    def test_empty_lines(self):
        for text, row in (("\n", 0), ("\n1", 0), ("\n1\n2", 0), ("1\n\n2", 1), ("1\n2\n\n3", 2), ("1\n", 1),
                          ("1 2\n3 4\n", 2), ("1\n\n", 1), (".\n", 1)):
            with self.subTest(text=text):
                self.assertEqual(self.refused_row(text), row)

    def test_blanks_too_many(self):
        for line in ("1  2", " 1 2", "1 2 ", " 1", "1 ", " ", "  ", ".  .", " . ."):
            with self.subTest(line=line):
                self.assertEqual(self.refused_row(line), 0)
                self.assertEqual(self.refused_row("1 2\n" + line), 1)
                self.assertEqual(self.refused_row("1 2\n3 4\n" + line + "\n5 6"), 2)

    def test_what_is_no_cell(self):
        for word in NO_CELLS:
            with self.subTest(word=word):
                self.assertEqual(self.refused_row(word), 0)
                self.assertEqual(self.refused_row("1\n2\n" + word), 2)
                self.assertEqual(self.refused_row(word + " 1"), 0)
                self.assertEqual(self.refused_row("1 2\n3 " + word + "\n5 6"), 1)
                self.assertEqual(self.refused_row("1 2 3\n4 " + word + " 6"), 1)

    def test_rows_not_as_long_as_the_first(self):
        for text, row in (("1 2\n3", 1), ("1\n2 3", 1), ("1 2\n3 4\n5", 2), ("1 2\n3 4\n5 6 7", 2), ("1 2\n3\n5 6", 1),
                          ("1\n2 3\n4 5", 1), ("1 2 3\n4 5\n6 7", 1), (". .\n.", 1)):
            with self.subTest(text=text):
                self.assertEqual(self.refused_row(text), row)

    def test_the_first_of_several_wrong_lines_is_told(self):
        for text, row in (("x\ny", 0), ("1\nx\ny", 1), ("1 2\n3\nx y", 1), ("1 2\nx y\n3", 1), ("1 2\n3 4\n5\n\n6 7 8", 2),
                          ("1\n\n2 3\n00", 1), ("1 2\n3 4 5\n6", 1), ("1 2\nx", 1), ("x\n1 2\n3", 0), ("1 2\n3 4\n-0 5\n\n", 2)):
            with self.subTest(text=text):
                self.assertEqual(self.refused_row(text), row)

    def test_refused_as_window_error_and_value_error(self):
        with self.assertRaises(WindowError):
            read_field("x")
        with self.assertRaises(ValueError):
            read_field("x")

    def test_by_name(self):
        self.assertEqual(read_field(text="1 2"), ((1, 2),))


class Writing(unittest.TestCase):
    def test_ordinary_fields(self):
        for text, field in PAIRS:
            with self.subTest(text=text):
                self.assertEqual(field_shown(field), text)
                self.assertIs(type(field_shown(field)), str)

    def test_there_and_back(self):
        for text, field in PAIRS + ((field_shown(large_field()), large_field()),):
            with self.subTest(text=text):
                self.assertEqual(read_field(field_shown(field)), field)
                self.assertEqual(field_shown(read_field(text)), text)

    def test_twelve_rows_and_columns(self):
        lines = field_shown(large_field()).split("\n")
        self.assertEqual(len(lines), 12)
        for line in lines:
            self.assertEqual(len(line.split(" ")), 12)

    def test_numbers_beyond_what_is_handed_in_at_most(self):
        self.assertEqual(field_shown(((MOST + 1, -MOST - 1),)), "1000000001 -1000000001")

    def test_by_name(self):
        self.assertEqual(field_shown(field=((1, None),)), "1 .")


class AskedAgain(unittest.TestCase):
    def test_the_same_behind_other_questions(self):
        first = read_field("1 .\n-3 0")
        with self.assertRaises(NoField):
            read_field("1 .\n-3")
        read_field("9 9 9")
        self.assertEqual(field_shown(((5,),)), "5")
        self.assertEqual(first, ((1, None), (-3, 0)))
        self.assertEqual(read_field("1 .\n-3 0"), first)
        self.assertEqual(field_shown(first), "1 .\n-3 0")
        self.assertEqual(field_shown(first), "1 .\n-3 0")

    def test_a_refusal_is_given_again(self):
        for again in range(3):
            with self.assertRaises(NoField) as caught:
                read_field("1\n2\n-0")
            self.assertEqual(caught.exception.row, 2)


if __name__ == "__main__":
    unittest.main()
