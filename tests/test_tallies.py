"""Point [9]: counts kept; and [2] for them."""

import itertools
import unittest

from midwindow.errors import NoNumber, NoPlace, WindowError
from midwindow.ranks.tallies import Tally

MOST = 10 ** 9
FAR = 10 ** 13


def filled(kinds, numbers):
    tally = Tally(kinds)
    for number in numbers:
        tally.put_in(number)
    return tally


class Told(unittest.TestCase):
    def same(self, tally, numbers, beside=()):
        """Asks all there is to ask, against a plain list of the numbers that are in."""
        rising = sorted(numbers)
        self.assertEqual(tally.how_many_in(), len(rising))
        self.assertEqual([tally.nth_in(place) for place in range(len(rising))], rising)
        for place in (-FAR, -len(rising) - 1, -len(rising), -2, -1, len(rising), len(rising) + 1, FAR):
            if not 0 <= place < len(rising):
                with self.assertRaises(NoPlace):
                    tally.nth_in(place)
        asked = {near for number in tuple(rising) + tuple(beside) for near in (number - 1, number, number + 1)}
        for number in sorted(asked | {0, MOST, -MOST, FAR, -FAR}):
            self.assertEqual(tally.how_many_below(number), len([other for other in rising if other < number]))

    def test_no_kinds(self):
        self.same(Tally(()), ())

    def test_kinds_are_not_in_at_first(self):
        self.same(Tally((3, 1, 2)), (), (3, 1, 2))

    def test_ordinary(self):
        tally = filled((10, 20, 30), (20, 10, 20))
        self.assertEqual(tally.how_many_in(), 3)
        self.assertEqual((tally.nth_in(0), tally.nth_in(1), tally.nth_in(2)), (10, 20, 20))
        self.assertEqual([tally.how_many_below(number) for number in (9, 10, 11, 19, 20, 21, 30, 31)],
                         [0, 0, 1, 1, 1, 3, 3, 3])

    def test_put_in_and_take_out_tell_none(self):
        tally = Tally((4,))
        self.assertIsNone(tally.put_in(4))
        self.assertIsNone(tally.take_out(4))

    def test_kinds_told_twice_are_one(self):
        tally = Tally((5, 5, 2, 5, 2))
        self.same(tally, (), (2, 5))
        tally.put_in(5)
        self.same(tally, (5,), (2, 5))
        tally.take_out(5)
        self.same(tally, (), (2, 5))
        with self.assertRaises(NoNumber):
            tally.take_out(5)

    def test_kinds_in_any_order(self):
        numbers = (4, -1, 4, 0, 9, -1, 4)
        for kinds in itertools.permutations((9, 4, 0, -1)):
            self.same(filled(kinds, numbers), numbers)

    def test_numbers_in_any_order(self):
        for numbers in itertools.permutations((3, 1, 2, 1)):
            tally = filled((1, 2, 3), numbers)
            self.same(tally, numbers)
            for k, number in enumerate(reversed(numbers)):
                tally.take_out(number)
                self.same(tally, numbers[:3 - k])

    def test_below_nought_and_far(self):
        numbers = (MOST, -MOST, 0, -1, 1, -MOST)
        self.same(filled((0, 1, -1, MOST, -MOST), numbers), numbers)

    def test_kinds_rise_as_numbers_not_as_texts(self):
        numbers = (100, 9, 10, -9, -10)
        self.same(filled(numbers, numbers), numbers)

    def test_the_number_nought(self):
        tally = filled((0,), (0, 0))
        self.same(tally, (0, 0))
        tally.take_out(0)
        self.same(tally, (0,))

    def test_often(self):
        tally = filled((1, 2), (1,) * 1000 + (2,) * 500)
        self.assertEqual(tally.how_many_in(), 1500)
        self.assertEqual([tally.nth_in(place) for place in (0, 1, 999, 1000, 1499)], [1, 1, 1, 2, 2])
        self.assertEqual([tally.how_many_below(number) for number in (1, 2, 3)], [0, 1000, 1500])
        for k in range(999):
            tally.take_out(1)
        self.assertEqual([tally.nth_in(place) for place in (0, 1, 500)], [1, 2, 2])
        tally.take_out(1)
        self.assertEqual(tally.how_many_in(), 500)
        with self.assertRaises(NoNumber):
            tally.take_out(1)

    def test_five_hundred_kinds(self):
        kinds = tuple((k * 37) % 500 * 3 - 700 for k in range(500))
        self.assertEqual(len(set(kinds)), 500)
        self.same(filled(kinds, kinds), kinds)
        tally = filled(kinds, kinds)
        for number in kinds[:250]:
            tally.take_out(number)
        self.same(tally, kinds[250:], kinds)

    def test_in_and_out_again_and_again(self):
        kinds = (7, -3, 0, 12, 5)
        tally = Tally(kinds)
        numbers = []
        at = 1
        for k in range(400):
            at = (at * 1103515245 + 12345) % 2 ** 31
            number = kinds[(at >> 8) % 5]
            if (at >> 16) % 3 == 0 and number in numbers:
                tally.take_out(number)
                numbers.remove(number)
            else:
                tally.put_in(number)
                numbers.append(number)
            if k % 20 == 0:
                self.same(tally, numbers, kinds)
        while numbers:
            tally.take_out(numbers.pop(len(numbers) // 2))
        self.same(tally, (), kinds)

    def test_kinds_of_what_is_told(self):
        tally = filled((5, 6), (6, 5))
        for told in (tally.how_many_in(), tally.nth_in(0), tally.nth_in(1), tally.how_many_below(6)):
            self.assertIs(type(told), int)
        self.assertIs(type(Tally(()).how_many_in()), int)
        self.assertIs(type(Tally(()).how_many_below(0)), int)

    def test_by_name(self):
        tally = Tally(kinds=(1, 2))
        tally.put_in(number=2)
        self.assertEqual(tally.nth_in(place=0), 2)
        self.assertEqual(tally.how_many_below(number=3), 1)
        tally.take_out(number=2)
        self.assertEqual(tally.how_many_in(), 0)


class Refused(unittest.TestCase):
    def refused(self, ask, number):
        with self.assertRaises(NoNumber) as caught:
            ask(number)
        self.assertIs(type(caught.exception), NoNumber)
        self.assertEqual(caught.exception.number, number)
        self.assertIsInstance(caught.exception, WindowError)

    def no_place(self, tally, place):
        with self.assertRaises(NoPlace) as caught:
            tally.nth_in(place)
        self.assertIs(type(caught.exception), NoPlace)

    def looks(self, tally):
        many = tally.how_many_in()
        return (many, [tally.nth_in(place) for place in range(many)],
                [tally.how_many_below(number) for number in range(-3, 40)])

    def test_putting_in_what_is_no_kind(self):
        for kinds in ((), (1,), (10, 30)):
            for number in (0, -1, 20, 31, MOST, -MOST):
                with self.subTest(kinds=kinds, number=number):
                    self.refused(Tally(kinds).put_in, number)

    def test_taking_out_what_is_no_kind(self):
        for kinds in ((), (1,), (10, 30)):
            for number in (0, -1, 20, 31, MOST, -MOST):
                with self.subTest(kinds=kinds, number=number):
                    self.refused(filled(kinds, kinds).take_out, number)

    def test_taking_out_a_kind_that_is_not_in(self):
        tally = filled((0, 10, 30), (10, 10))
        self.refused(tally.take_out, 30)
        self.refused(tally.take_out, 0)
        tally.take_out(10)
        tally.take_out(10)
        self.refused(tally.take_out, 10)

    def test_places_that_are_none(self):
        empty = Tally((1, 2))
        for place in (0, 1, -1, FAR, -FAR):
            self.no_place(empty, place)
            self.no_place(Tally(()), place)
        tally = filled((1, 2), (1, 2, 2))
        for place in (-1, -2, -3, -4, 3, 4, FAR, -FAR):
            self.no_place(tally, place)
        tally.take_out(2)
        self.no_place(tally, 2)
        self.assertEqual(tally.nth_in(1), 2)

    def test_behind_a_refusal_the_tally_is_as_ahead(self):
        for numbers in ((), (10,), (10, 10, 30)):
            tally = filled((10, 20, 30), numbers)
            ahead = self.looks(tally)
            self.refused(tally.put_in, 15)
            self.refused(tally.take_out, 15)
            self.refused(tally.take_out, 20)
            self.no_place(tally, -1)
            self.no_place(tally, len(numbers))
            self.assertEqual(self.looks(tally), ahead)
            self.refused(tally.put_in, 15)
            self.refused(tally.take_out, 20)
            tally.put_in(20)
            self.assertEqual(tally.how_many_in(), len(numbers) + 1)
            tally.take_out(20)
            self.assertEqual(self.looks(tally), ahead)


class Apart(unittest.TestCase):
    def test_two_tallies_of_the_same_kinds(self):
        kinds = (1, 2)
        first = Tally(kinds)
        second = Tally(kinds)
        first.put_in(1)
        self.assertEqual((first.how_many_in(), second.how_many_in()), (1, 0))
        second.put_in(2)
        self.assertEqual((first.nth_in(0), second.nth_in(0)), (1, 2))
        with self.assertRaises(NoNumber):
            second.take_out(1)

    def test_the_kinds_of_one_are_none_of_another(self):
        Tally((1, 2))
        with self.assertRaises(NoNumber):
            Tally((3,)).put_in(1)

    def test_the_same_asked_again(self):
        tally = filled((4, 8), (8, 4, 4))
        for again in range(3):
            self.assertEqual((tally.how_many_in(), tally.nth_in(1), tally.how_many_below(8)), (3, 4, 2))
            filled((4, 8), (8,))

    def test_the_kinds_handed_in_are_not_changed(self):
        kinds = (3, 1, 3, 2)
        filled(kinds, kinds)
        self.assertEqual(kinds, (3, 1, 3, 2))


if __name__ == "__main__":
    unittest.main()
