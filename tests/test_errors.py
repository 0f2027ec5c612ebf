"""The error classes: where they stand, and what they keep."""

import unittest

from midwindow.errors import NoAsk, NoField, NoNumber, NoPlace, WindowError

OWN = (NoPlace, NoAsk, NoField, NoNumber)


class Standing(unittest.TestCase):
    def test_window_error_stands_under_value_error_and_nothing_else_of_its_own(self):
        self.assertTrue(issubclass(WindowError, ValueError))
        for kind in OWN:
            self.assertFalse(issubclass(WindowError, kind))

    def test_each_stands_under_window_error(self):
        for kind in OWN:
            with self.subTest(kind=kind):
                self.assertTrue(issubclass(kind, WindowError))
                self.assertTrue(issubclass(kind, ValueError))

    def test_none_stands_under_another(self):
        for kind in OWN:
            for other in OWN:
                if kind is not other:
                    with self.subTest(kind=kind, other=other):
                        self.assertFalse(issubclass(kind, other))

    def test_none_is_an_index_or_key_error(self):
        for kind in OWN:
            self.assertFalse(issubclass(kind, LookupError))


class Made(unittest.TestCase):
    def test_made_of_a_text(self):
        for kind in (WindowError, NoPlace, NoAsk):
            with self.subTest(kind=kind):
                with self.assertRaises(WindowError) as caught:
                    raise kind("some words")
                self.assertIs(type(caught.exception), kind)
                self.assertIn("some words", str(caught.exception))

    def test_no_field_keeps_its_row(self):
        for row in (0, 1, 11, 4000):
            self.assertEqual(NoField(row).row, row)
        self.assertEqual(NoField(row=7).row, 7)

    def test_no_number_keeps_its_number(self):
        for number in (0, -1, 10 ** 9, -10 ** 9):
            self.assertEqual(NoNumber(number).number, number)
        self.assertEqual(NoNumber(number=7).number, 7)

    def test_each_object_keeps_its_own(self):
        first = NoField(1)
        second = NoField(2)
        self.assertEqual((first.row, second.row), (1, 2))
        first = NoNumber(1)
        second = NoNumber(2)
        self.assertEqual((first.number, second.number), (1, 2))


if __name__ == "__main__":
    unittest.main()
