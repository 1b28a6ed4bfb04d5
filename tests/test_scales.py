"""Promises [4] and [5]: bases and worths at places, rows of digits and numbers."""

import itertools
import math
import unittest

from mixedscales.errors import NoDigit, NoPlace, TooGreat
from mixedscales.scales import base_at, digits_of, number_of, worth_at

NOTHING = ((), ())
CLOCK = ((60, 60, 24), ())
DAYS = ((60, 60, 24), (7,))
TURNS = ((), (2, 5, 3))
BOTH = ((4, 3), (2, 5, 7))
DECIMAL = ((), (10,))
ORDERS = (tuple(range(2, 31)), ())
SCALES = (NOTHING, CLOCK, DAYS, TURNS, BOTH, DECIMAL, ORDERS, ((2,), ()), ((), (2,)), ((10 ** 6,), (10 ** 6, 2)))


def bases_of(scale, many):
    """The first bases, written out, without asking the program."""
    head, ring = scale
    rounds = ring * (many if ring else 0)
    return (head + rounds)[:many]


class PlacesTest(unittest.TestCase):
    def test_bases_of_head(self):
        self.assertEqual([base_at(CLOCK, place) for place in range(3)], [60, 60, 24])

    def test_ring_goes_round_behind_head(self):
        told = [base_at(BOTH, place) for place in range(9)]
        self.assertEqual(told, [4, 3, 2, 5, 7, 2, 5, 7, 2])

    def test_head_is_empty(self):
        self.assertEqual([base_at(TURNS, place) for place in range(7)], [2, 5, 3, 2, 5, 3, 2])

    def test_worths(self):
        self.assertEqual([worth_at(CLOCK, place) for place in range(3)], [1, 60, 3600])
        self.assertEqual([worth_at(BOTH, place) for place in range(7)], [1, 4, 12, 24, 120, 840, 1680])

    def test_worth_of_place_nought_is_one(self):
        for scale in SCALES:
            if scale != NOTHING:
                self.assertEqual(worth_at(scale, 0), 1)

    def test_no_place_behind_the_last_one(self):
        for scale in (CLOCK, ORDERS, ((2,), ()), NOTHING):
            last = len(scale[0]) - 1
            if last >= 0:
                self.assertEqual(base_at(scale, last), scale[0][-1])
                self.assertEqual(worth_at(scale, last), math.prod(scale[0][:-1]))
            for place in (last + 1, last + 2, 300):
                for asked in (base_at, worth_at):
                    with self.subTest(scale=scale, place=place, asked=asked.__name__):
                        self.assertRaises(NoPlace, asked, scale, place)

    def test_no_place_below_nought(self):
        for scale in SCALES:
            for place in (-1, -2, -3, -300, -10 ** 59):
                self.assertRaises(NoPlace, base_at, scale, place)
                self.assertRaises(NoPlace, worth_at, scale, place)

    def test_places_up_to_300(self):
        twelve = (tuple(range(2, 14)), tuple(range(10 ** 6 - 11, 10 ** 6 + 1)))
        for scale in (DAYS, TURNS, BOTH, DECIMAL, twelve):
            bases = bases_of(scale, 301)
            for place in (0, 1, 11, 12, 13, 23, 24, 25, 150, 299, 300):
                self.assertEqual(base_at(scale, place), bases[place])
                self.assertEqual(worth_at(scale, place), math.prod(bases[:place]))

    def test_orders_scale(self):
        for place in range(29):
            self.assertEqual(base_at(ORDERS, place), place + 2)
            self.assertEqual(worth_at(ORDERS, place), math.factorial(place + 1))


class DigitsTest(unittest.TestCase):
    def test_ordinary_numbers(self):
        self.assertEqual(digits_of(CLOCK, 3725), (5, 2, 1))
        self.assertEqual(digits_of(DECIMAL, 1203), (3, 0, 2, 1))
        self.assertEqual(digits_of(BOTH, 1 + 2 * 4 + 1 * 12 + 4 * 24 + 6 * 120 + 840), (1, 2, 1, 4, 6, 1))

    def test_nought_is_the_empty_row(self):
        for scale in SCALES:
            self.assertEqual(digits_of(scale, 0), ())
            self.assertEqual(number_of(scale, ()), 0)

    def test_the_last_digit_is_not_nought(self):
        for scale in (CLOCK, DAYS, TURNS, BOTH, DECIMAL, ORDERS):
            for number in range(1, 500):
                self.assertNotEqual(digits_of(scale, number)[-1], 0)

    def test_worth_of_a_place_is_noughts_and_one(self):
        for scale in (CLOCK, DAYS, TURNS, BOTH, DECIMAL, ORDERS):
            for place in range(len(scale[0]) or 9):
                worth = worth_at(scale, place)
                self.assertEqual(digits_of(scale, worth), (0,) * place + (1,))
                self.assertEqual(number_of(scale, (0,) * place + (1,)), worth)

    def test_too_great_just_from_the_end_on(self):
        for scale in (CLOCK, ORDERS, ((2,), ()), ((2, 3), ()), NOTHING, ((10 ** 6,) * 12, ())):
            end = math.prod(scale[0])
            self.assertEqual(digits_of(scale, end - 1), tuple(base - 1 for base in scale[0]))
            for number in (end, end + 1, 2 * end, end * 10 ** 6):
                with self.subTest(scale=scale, number=number):
                    self.assertRaises(TooGreat, digits_of, scale, number)

    def test_a_scale_that_goes_round_has_no_end(self):
        for scale in (DAYS, TURNS, BOTH, DECIMAL):
            for number in (10 ** 59, 10 ** 60 - 1):
                self.assertEqual(number_of(scale, digits_of(scale, number)), number)

    def test_rows_are_told_as_numbers(self):
        self.assertEqual(number_of(CLOCK, (5, 2, 1)), 3725)
        self.assertEqual(number_of(DECIMAL, (3, 0, 2, 1)), 1203)

    def test_noughts_behind_are_the_same_number(self):
        self.assertEqual(number_of(CLOCK, (5, 0, 0)), 5)
        self.assertEqual(number_of(CLOCK, (0, 0, 0)), 0)
        self.assertEqual(number_of(BOTH, (1, 2) + (0,) * 80), 9)

    def test_one_row_for_each_number(self):
        for bases in ((), (2,), (3, 2), (2, 3, 4), (5, 2, 2, 3)):
            rows = list(itertools.product(*[range(base) for base in bases]))
            self.assertEqual(sorted(number_of((bases, ()), row) for row in rows), list(range(len(rows))))
            for number in range(len(rows)):
                told = digits_of((bases, ()), number)
                self.assertEqual(number_of((bases, ()), told), number)
                self.assertIn(told + (0,) * (len(bases) - len(told)), rows)

    def test_orders_scale_of_29_bases(self):
        end = math.factorial(30)
        for number in (0, 1, end // 3, end - 1, 10 ** 32):
            self.assertEqual(number_of(ORDERS, digits_of(ORDERS, number)), number)
        self.assertRaises(TooGreat, digits_of, ORDERS, end)


class NoDigitTest(unittest.TestCase):
    def assert_wrong(self, scale, digits, place):
        with self.subTest(scale=scale, digits=digits):
            with self.assertRaises(NoDigit) as caught:
                number_of(scale, digits)
            self.assertEqual(caught.exception.place, place)

    def test_below_nought(self):
        self.assert_wrong(CLOCK, (-1,), 0)
        self.assert_wrong(CLOCK, (5, 2, -1), 2)
        self.assert_wrong(DECIMAL, (9, -10 ** 59, 1), 1)

    def test_the_base_itself_and_more(self):
        self.assert_wrong(CLOCK, (60,), 0)
        self.assert_wrong(CLOCK, (59, 59, 24), 2)
        self.assert_wrong(CLOCK, (0, 61), 1)
        self.assert_wrong(BOTH, (3, 2, 1, 4, 6, 2), 5)
        self.assert_wrong(TURNS, (1, 4, 2, 10 ** 59), 3)

    def test_the_greatest_digits_are_let_by(self):
        self.assertEqual(number_of(CLOCK, (59, 59, 23)), 86399)
        self.assertEqual(number_of(BOTH, (3, 2, 1, 4, 6, 1)), 1679)

    def test_a_place_that_is_none(self):
        self.assert_wrong(CLOCK, (1, 1, 1, 1), 3)
        self.assert_wrong(NOTHING, (1,), 0)
        self.assert_wrong(ORDERS, (0,) * 29 + (1,), 29)

    def test_a_nought_at_a_place_that_is_none(self):
        self.assert_wrong(CLOCK, (1, 1, 1, 0), 3)
        self.assert_wrong(CLOCK, (0, 0, 0, 0, 0), 3)
        self.assert_wrong(NOTHING, (0,), 0)

    def test_the_first_wrong_place(self):
        self.assert_wrong(CLOCK, (1, 60, -1), 1)
        self.assert_wrong(CLOCK, (1, -1, 24, 0), 1)
        self.assert_wrong(CLOCK, (60, 0, 0, 0), 0)
        self.assert_wrong(CLOCK, (0, 0, 0, -1), 3)
        self.assert_wrong(DECIMAL, (9,) * 84 + (10,), 84)


if __name__ == "__main__":
    unittest.main()
