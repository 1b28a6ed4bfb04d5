"""Promises [8] and [9]: rows multiplied and divided, and told in another scale."""

import itertools
import math
import unittest

from asked import bases_of, mixed_numbers, mixed_row, refused, refused_digit
from mixedscales.errors import TooGreat
from mixedscales.products import divided, exchanged, multiplied
from mixedscales.scales import digits_of, number_of

NOTHING = ((), ())
CLOCK = ((60, 60, 24), ())
SMALL = ((2, 3, 2), ())
DAYS = ((60, 60, 24), (7,))
TURNS = ((), (2, 5, 3))
BOTH = ((4, 3), (2, 5, 7))
DECIMAL = ((), (10,))
TWO = ((), (2,))
GREAT = (tuple(range(2, 14)), tuple(10 ** 6 - step for step in range(12)))
ROUND = (DAYS, TURNS, BOTH, DECIMAL, TWO, GREAT, ((), (10 ** 6,)))
FEW = (0, 1, 2, 3, 7, 10, 24, 59, 60, 61, 1000)
MANY = (10 ** 59, 10 ** 60 - 1, 123456789 ** 7 % 10 ** 60, 2 ** 199)


def carries_by_numbers(scale, digits, number):
    """What is carried out of each place: what the places up to it come to, over the worth behind it."""
    bases = bases_of(scale, len(digits))
    told = []
    whole = 0
    worth = 1
    for digit, base in zip(digits, bases):
        whole += digit * worth * number
        worth *= base
        told.append(whole // worth)
    return tuple(told)


def rests_by_numbers(scale, digits, number):
    """What is left at each place: what the places from it on come to, counted by its worth, over number."""
    bases = bases_of(scale, len(digits))
    told = []
    for place in range(len(digits)):
        whole = sum(digits[at] * math.prod(bases[place:at]) for at in range(place, len(digits)))
        told.append(whole % number)
    return tuple(told)


def places_by_numbers(scale, other, digits):
    """How many places an exchange goes through, by the numbers alone."""
    bases = bases_of(scale, len(digits))
    many = 0
    for place in range(len(digits)):
        whole = sum(digits[at] * math.prod(bases[place + 1:at]) for at in range(place + 1, len(digits)))
        many += len(digits_of(other, whole)) or 1
    return many


class MultipliedTest(unittest.TestCase):
    def assert_multiplied(self, scale, digits, number):
        with self.subTest(scale=scale, digits=digits, number=number):
            told, carries = multiplied(scale, digits, number)
            self.assertEqual(told, digits_of(scale, number_of(scale, digits) * number))
            self.assertEqual(carries, carries_by_numbers(scale, digits, number))

    def test_ordinary(self):
        self.assertEqual(multiplied(CLOCK, (50, 59, 1), 3), ((30, 59, 5), (2, 2, 0)))
        self.assertEqual(multiplied(DECIMAL, (9, 9), 9), ((1, 9, 8), (8, 8)))
        self.assertEqual(multiplied(BOTH, (3, 2), 2), ((2, 2, 1), (1, 1)))

    def test_by_nought(self):
        self.assertEqual(multiplied(CLOCK, (50, 59, 1), 0), ((), (0, 0, 0)))
        self.assertEqual(multiplied(CLOCK, (0, 0), 0), ((), (0, 0)))

    def test_by_one(self):
        self.assertEqual(multiplied(CLOCK, (50, 59, 1), 1), ((50, 59, 1), (0, 0, 0)))
        self.assertEqual(multiplied(CLOCK, (50, 0, 0), 1), ((50,), (0, 0, 0)))

    def test_by_a_base(self):
        self.assertEqual(multiplied(CLOCK, (5, 2), 60), ((0, 5, 2), (5, 2)))
        self.assertEqual(multiplied(DECIMAL, (3, 1), 10), ((0, 3, 1), (3, 1)))
        self.assertEqual(multiplied(TURNS, (1, 4), 2), ((0, 4, 1), (1, 1)))

    def test_noughts_behind(self):
        self.assertEqual(multiplied(DECIMAL, (5, 0, 0), 3), ((5, 1), (1, 0, 0)))
        self.assertEqual(multiplied(DECIMAL, (0, 0, 0), 3), ((), (0, 0, 0)))
        self.assertEqual(multiplied(DECIMAL, (5, 0), 1234), ((0, 7, 1, 6), (617, 61)))

    def test_the_last_carry_goes_on_into_further_digits(self):
        self.assertEqual(multiplied(DECIMAL, (9,), 1111), ((9, 9, 9, 9), (999,)))
        self.assertEqual(multiplied(DECIMAL, (5,), 200), ((0, 0, 0, 1), (100,)))
        self.assertEqual(multiplied(BOTH, (1,), 840), ((0, 0, 0, 0, 0, 1), (210,)))
        self.assertEqual(multiplied(CLOCK, (1,), 86399), ((59, 59, 23), (1439,)))

    def test_the_empty_row(self):
        for scale in ROUND + (CLOCK, NOTHING):
            for number in FEW + MANY:
                self.assertEqual(multiplied(scale, (), number), ((), ()))

    def test_every_small_row(self):
        for many in range(4):
            for digits in itertools.product(*[range(base) for base in bases_of(BOTH, many)]):
                for number in range(30):
                    self.assert_multiplied(BOTH, digits, number)

    def test_rows_of_none_to_eighty_digits(self):
        for scale in ROUND:
            for many in (0, 1, 2, 11, 12, 13, 30, 79, 80):
                row = mixed_row(bases_of(scale, many), many)
                for number in FEW[:4] + (60, 10 ** 6) + MANY[1:3]:
                    self.assert_multiplied(scale, row, number)
                    self.assert_multiplied(scale, row[:many // 2] + (0,) * (many - many // 2), number)

    def test_numbers_of_sixty_figures(self):
        for scale in ROUND:
            for number in MANY + tuple(mixed_numbers(10, 10 ** 60)):
                self.assert_multiplied(scale, mixed_row(bases_of(scale, 20), 3), number)
                self.assert_multiplied(scale, (1,), number)

    def test_too_great_just_where_the_scale_has_no_place(self):
        for digits in itertools.product(range(2), range(3), range(2)):
            whole = number_of(SMALL, digits)
            for number in range(15):
                if whole * number < 12:
                    self.assert_multiplied(SMALL, digits, number)
                else:
                    refused(self, TooGreat, multiplied, SMALL, digits, number)
        self.assert_multiplied(CLOCK, (1,), 86399)
        refused(self, TooGreat, multiplied, CLOCK, (1,), 86400)
        refused(self, TooGreat, multiplied, CLOCK, (0, 0, 12), 2)
        refused(self, TooGreat, multiplied, CLOCK, (59, 59, 23), 10 ** 59)

    def test_no_digit_ahead_of_too_great(self):
        refused_digit(self, 1, multiplied, CLOCK, (1, 60, 1), 2)
        refused_digit(self, 1, multiplied, CLOCK, (59, 60, 23), 10 ** 59)
        refused_digit(self, 0, multiplied, CLOCK, (-1, 60, 24), 10 ** 59)
        refused_digit(self, 3, multiplied, CLOCK, (59, 59, 23, 0), 10 ** 59)
        refused_digit(self, 0, multiplied, NOTHING, (0,), 5)

    def test_no_digit_whatever_the_number(self):
        for number in FEW + MANY:
            refused_digit(self, 2, multiplied, CLOCK, (0, 0, 24), number)
            refused_digit(self, 79, multiplied, DECIMAL, (9,) * 79 + (10,), number)


class DividedTest(unittest.TestCase):
    def assert_divided(self, scale, digits, number):
        with self.subTest(scale=scale, digits=digits, number=number):
            whole = number_of(scale, digits)
            told, rests = divided(scale, digits, number)
            self.assertEqual(told, digits_of(scale, whole // number))
            self.assertEqual(rests, rests_by_numbers(scale, digits, number))
            self.assertEqual(rests[:1], (whole % number,)[:len(digits)])

    def test_ordinary(self):
        self.assertEqual(divided(CLOCK, (50, 59, 1), 3), ((56, 39), (2, 2, 1)))
        self.assertEqual(divided(DECIMAL, (7, 5, 9), 4), ((9, 3, 2), (1, 3, 1)))
        self.assertEqual(divided(BOTH, (2, 2, 1), 2), ((3, 2), (0, 1, 1)))

    def test_by_one(self):
        self.assertEqual(divided(CLOCK, (50, 59, 1), 1), ((50, 59, 1), (0, 0, 0)))
        self.assertEqual(divided(CLOCK, (50, 0, 0), 1), ((50,), (0, 0, 0)))

    def test_by_a_base(self):
        self.assertEqual(divided(CLOCK, (5, 2, 1), 60), ((2, 1), (5, 2, 1)))
        self.assertEqual(divided(DECIMAL, (3, 1), 10), ((1,), (3, 1)))
        self.assertEqual(divided(TURNS, (1, 4), 2), ((0, 2), (1, 0)))

    def test_by_more_than_the_whole(self):
        self.assertEqual(divided(CLOCK, (5, 2, 1), 3726), ((), (3725, 62, 1)))
        self.assertEqual(divided(CLOCK, (5, 2, 1), 3725), ((1,), (0, 62, 1)))
        self.assertEqual(divided(DECIMAL, (1, 2, 3), 10 ** 59), ((), (321, 32, 3)))

    def test_noughts_behind(self):
        self.assertEqual(divided(DECIMAL, (5, 0, 0), 3), ((1,), (2, 0, 0)))
        self.assertEqual(divided(DECIMAL, (0, 0, 0), 3), ((), (0, 0, 0)))
        self.assertEqual(divided(CLOCK, (0, 2, 0), 7), ((17,), (1, 2, 0)))

    def test_the_empty_row(self):
        for scale in ROUND + (CLOCK, NOTHING):
            for number in FEW[1:] + MANY:
                self.assertEqual(divided(scale, (), number), ((), ()))

    def test_every_small_row(self):
        for many in range(4):
            for digits in itertools.product(*[range(base) for base in bases_of(BOTH, many)]):
                for number in range(1, 30):
                    self.assert_divided(BOTH, digits, number)

    def test_long_rows_and_great_numbers(self):
        for scale in ROUND:
            for many in (0, 1, 2, 11, 12, 13, 30, 79, 80):
                row = mixed_row(bases_of(scale, many), many)
                for number in FEW[1:4] + (60, 10 ** 6) + MANY[1:3]:
                    self.assert_divided(scale, row, number)
                    self.assert_divided(scale, row[:many // 2] + (0,) * (many - many // 2), number)

    def test_scales_that_end(self):
        for number in (0, 1, 59, 60, 3599, 3600, 86399):
            for over in FEW[1:] + MANY:
                self.assert_divided(CLOCK, digits_of(CLOCK, number), over)

    def test_multiplied_leads_back(self):
        for scale in ROUND:
            row = digits_of(scale, number_of(scale, mixed_row(bases_of(scale, 25), 5)))
            for number in FEW[1:] + MANY:
                product = multiplied(scale, row, number)[0]
                told, rests = divided(scale, product, number)
                self.assertEqual((told, rests[0]), (row, 0))

    def test_no_digit(self):
        for number in FEW[1:] + MANY:
            refused_digit(self, 1, divided, CLOCK, (1, 60, 24), number)
            refused_digit(self, 0, divided, CLOCK, (-1, 60, 24), number)
            refused_digit(self, 3, divided, CLOCK, (0, 0, 0, 0), number)
            refused_digit(self, 0, divided, NOTHING, (0,), number)
            refused_digit(self, 79, divided, DECIMAL, (9,) * 79 + (10,), number)


class ExchangedTest(unittest.TestCase):
    SCALES = ROUND + (CLOCK, SMALL, NOTHING, ((10 ** 6,) * 12, ()), ((5,), ()))

    def assert_exchanged(self, scale, other, digits):
        with self.subTest(scale=scale, other=other, digits=digits):
            told = exchanged(scale, other, digits)
            self.assertEqual(told[0], digits_of(other, number_of(scale, digits)))
            self.assertEqual(told[1], places_by_numbers(scale, other, digits))

    def test_ordinary(self):
        self.assertEqual(exchanged(CLOCK, DECIMAL, (50, 59, 1)), ((0, 9, 1, 7), 5))
        self.assertEqual(exchanged(DECIMAL, CLOCK, (0, 9, 1, 7)), ((50, 59, 1), 6))
        self.assertEqual(exchanged(DECIMAL, TWO, (2, 1)), ((0, 0, 1, 1), 2))

    def test_the_places_gone_through(self):
        self.assertEqual(exchanged(DECIMAL, TWO, (1,)), ((1,), 1))
        self.assertEqual(exchanged(DECIMAL, TWO, (9,)), ((1, 0, 0, 1), 1))
        self.assertEqual(exchanged(DECIMAL, TWO, (0, 9)), ((0, 1, 0, 1, 1, 0, 1), 5))
        self.assertEqual(exchanged(DECIMAL, DECIMAL, (4, 3, 2, 1)), ((4, 3, 2, 1), 7))

    def test_noughts_behind_are_gone_through_too(self):
        self.assertEqual(exchanged(DECIMAL, TWO, (0, 9, 0)), ((0, 1, 0, 1, 1, 0, 1), 6))
        self.assertEqual(exchanged(DECIMAL, TWO, (0, 9, 0, 0, 0)), ((0, 1, 0, 1, 1, 0, 1), 8))

    def test_noughts_alone_and_the_empty_row(self):
        for other in self.SCALES:
            self.assertEqual(exchanged(DECIMAL, other, ()), ((), 0))
            self.assertEqual(exchanged(NOTHING, other, ()), ((), 0))
            for many in (1, 2, 3, 80):
                self.assertEqual(exchanged(DECIMAL, other, (0,) * many), ((), many))
            self.assertEqual(exchanged(CLOCK, other, (0, 0, 0)), ((), 3))

    def test_between_all_scales(self):
        for scale, other in itertools.product(self.SCALES, repeat=2):
            for number in (0, 1, 2, 4, 11, 59, 60, 3725, 10 ** 12 + 7):
                if number >= math.prod(scale[0]) and not scale[1]:
                    continue
                row = digits_of(scale, number)
                behind = row + (0,) * (len(bases_of(scale, 12)) - len(row))
                if number >= math.prod(other[0]) and not other[1]:
                    refused(self, TooGreat, exchanged, scale, other, row)
                    refused(self, TooGreat, exchanged, scale, other, behind)
                else:
                    self.assert_exchanged(scale, other, row)
                    self.assert_exchanged(scale, other, behind)

    def test_rows_of_eighty_digits(self):
        for scale, other in itertools.product((BOTH, TURNS, TWO, GREAT), (DAYS, DECIMAL, BOTH, GREAT)):
            row = mixed_row(bases_of(scale, 80), 2)
            self.assert_exchanged(scale, other, row)
            back = exchanged(other, scale, exchanged(scale, other, row)[0])[0]
            self.assertEqual(number_of(scale, back), number_of(scale, row))

    def test_numbers_of_sixty_figures(self):
        for number in MANY:
            self.assert_exchanged(DECIMAL, BOTH, digits_of(DECIMAL, number))
            self.assert_exchanged(BOTH, DECIMAL, digits_of(BOTH, number))

    def test_too_great_just_from_the_end_on(self):
        self.assert_exchanged(DECIMAL, CLOCK, (9, 9, 3, 6, 8))
        refused(self, TooGreat, exchanged, DECIMAL, CLOCK, (0, 0, 4, 6, 8))
        refused(self, TooGreat, exchanged, DECIMAL, NOTHING, (1,))
        refused(self, TooGreat, exchanged, DECIMAL, NOTHING, (0, 1, 0))
        refused(self, TooGreat, exchanged, DAYS, CLOCK, (0, 0, 0, 1))

    def test_no_digit_ahead_of_too_great(self):
        refused_digit(self, 1, exchanged, DECIMAL, NOTHING, (1, 10, 1))
        refused_digit(self, 5, exchanged, DECIMAL, CLOCK, (9, 9, 9, 9, 9, -1))
        refused_digit(self, 3, exchanged, CLOCK, DECIMAL, (0, 0, 0, 0))
        refused_digit(self, 0, exchanged, CLOCK, DECIMAL, (60, 60, 60))
        refused_digit(self, 0, exchanged, NOTHING, DECIMAL, (0,))

    def test_a_digit_is_looked_at_by_its_own_scale(self):
        self.assert_exchanged(CLOCK, TWO, (59, 59, 23))
        refused_digit(self, 0, exchanged, TWO, CLOCK, (59,))


if __name__ == "__main__":
    unittest.main()
