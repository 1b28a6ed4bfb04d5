"""Promises [6] and [7]: rows added and taken off, and the looker at sums."""

import itertools
import unittest

from mixedscales.errors import NoDigit, TooGreat, TooSmall
from mixedscales.scales import digits_of, number_of
from mixedscales.sums import added, sum_shown, taken_off

NOTHING = ((), ())
CLOCK = ((60, 60, 24), ())
SMALL = ((2, 3), ())
BOTH = ((4, 3), (2, 5, 7))
DECIMAL = ((), (10,))


def worths_behind(scale, many):
    """The worths behind the places 0, 1 .. of many places, without asking the program."""
    head, ring = scale
    worths = []
    worth = 1
    for base in (head + ring * (many if ring else 0))[:many]:
        worth *= base
        worths.append(worth)
    return worths


def all_rows(bases):
    """Every row of digits of a scale that ends, of every length, noughts behind too."""
    rows = []
    for many in range(len(bases) + 1):
        rows.extend(itertools.product(*[range(base) for base in bases[:many]]))
    return rows


class RefusedTest(unittest.TestCase):
    def assert_no_digit(self, reckoned, scale, one, other, place):
        with self.subTest(reckoned=reckoned.__name__, one=one, other=other):
            with self.assertRaises(NoDigit) as caught:
                reckoned(scale, one, other)
            self.assertEqual(caught.exception.place, place)

    def test_no_digit_in_either_row(self):
        for reckoned in (added, taken_off):
            self.assert_no_digit(reckoned, CLOCK, (1, 60), (1,), 1)
            self.assert_no_digit(reckoned, CLOCK, (9, 9), (1, -1), 1)
            self.assert_no_digit(reckoned, CLOCK, (1, 2, 3, 0), (), 3)
            self.assert_no_digit(reckoned, CLOCK, (1,), (0, 0, 0, 0), 3)
            self.assert_no_digit(reckoned, NOTHING, (), (0,), 0)

    def test_the_first_row_first(self):
        for reckoned in (added, taken_off):
            self.assert_no_digit(reckoned, CLOCK, (1, 2, 24), (60,), 2)
            self.assert_no_digit(reckoned, CLOCK, (0, 0, 0, 0), (-1,), 3)

    def test_no_digit_ahead_of_too_great(self):
        self.assert_no_digit(added, SMALL, (1, 2), (1, 3), 1)
        self.assert_no_digit(added, SMALL, (1, 2, 0), (1, 2), 2)
        self.assert_no_digit(added, SMALL, (1, 2), (1, 2, 0), 2)

    def test_no_digit_ahead_of_too_small(self):
        self.assert_no_digit(taken_off, CLOCK, (), (1, 60), 1)
        self.assert_no_digit(taken_off, CLOCK, (1, -1), (2, 2), 1)
        self.assert_no_digit(taken_off, CLOCK, (), (1, 1, 1, 0), 3)


class AddedTest(unittest.TestCase):
    def test_ordinary(self):
        self.assertEqual(added(CLOCK, (50, 59, 1), (20, 0, 2)), ((10, 0, 4), (1, 1, 0)))
        self.assertEqual(added(CLOCK, (1, 2, 3), (4, 5, 6)), ((5, 7, 9), (0, 0, 0)))

    def test_unlike_lengths(self):
        self.assertEqual(added(DECIMAL, (9, 9, 1), (1,)), ((0, 0, 2), (1, 1, 0)))
        self.assertEqual(added(DECIMAL, (1,), (9, 9, 1)), ((0, 0, 2), (1, 1, 0)))

    def test_empty_rows(self):
        for scale in (NOTHING, CLOCK, DECIMAL):
            self.assertEqual(added(scale, (), ()), ((), ()))
        self.assertEqual(added(CLOCK, (), (5, 2)), ((5, 2), (0, 0)))
        self.assertEqual(added(CLOCK, (5, 2), ()), ((5, 2), (0, 0)))

    def test_noughts_behind(self):
        self.assertEqual(added(CLOCK, (5, 0, 0), (1,)), ((6,), (0, 0, 0)))
        self.assertEqual(added(CLOCK, (1,), (5, 0, 0)), ((6,), (0, 0, 0)))
        self.assertEqual(added(CLOCK, (0, 0), (0, 0, 0)), ((), (0, 0, 0)))
        self.assertEqual(added(DECIMAL, (9, 0, 0), (1, 0)), ((0, 1), (1, 0, 0)))

    def test_a_last_carry_is_one_digit_more(self):
        self.assertEqual(added(DECIMAL, (9, 9), (1,)), ((0, 0, 1), (1, 1)))
        self.assertEqual(added(CLOCK, (59, 59), (59, 59)), ((58, 59, 1), (1, 1)))
        self.assertEqual(added(BOTH, (3, 2, 1, 4, 6), (1,)), ((0, 0, 0, 0, 0, 1), (1, 1, 1, 1, 1)))

    def test_a_last_carry_without_a_place(self):
        self.assertEqual(added(SMALL, (1, 1), (0, 1)), ((1, 2), (0, 0)))
        self.assertRaises(TooGreat, added, SMALL, (1, 2), (1,))
        self.assertRaises(TooGreat, added, SMALL, (1,), (1, 2))
        self.assertRaises(TooGreat, added, SMALL, (0, 2), (0, 1))
        self.assertRaises(TooGreat, added, CLOCK, (59, 59, 23), (1, 0, 0))
        self.assertEqual(added(((60, 60, 24), (2,)), (59, 59, 23), (1,)), ((0, 0, 0, 1), (1, 1, 1)))

    def test_all_small_rows_are_what_the_numbers_are(self):
        for bases in ((), (2,), (2, 3), (3, 2, 2)):
            scale = (bases, ())
            end = (worths_behind(scale, len(bases)) or [1])[-1]
            for one, other in itertools.product(all_rows(bases), repeat=2):
                whole = number_of(scale, one) + number_of(scale, other)
                if whole >= end:
                    self.assertRaises(TooGreat, added, scale, one, other)
                    continue
                behind = worths_behind(scale, max(len(one), len(other)))
                carries = tuple(
                    (number_of(scale, one) % worth + number_of(scale, other) % worth) // worth for worth in behind
                )
                self.assertEqual(added(scale, one, other), (digits_of(scale, whole), carries))


class TakenOffTest(unittest.TestCase):
    def test_ordinary(self):
        self.assertEqual(taken_off(CLOCK, (10, 0, 4), (20, 0, 2)), ((50, 59, 1), (1, 1, 0)))
        self.assertEqual(taken_off(CLOCK, (5, 7, 9), (4, 5, 6)), ((1, 2, 3), (0, 0, 0)))

    def test_unlike_lengths(self):
        self.assertEqual(taken_off(DECIMAL, (0, 0, 2), (1,)), ((9, 9, 1), (1, 1, 0)))
        self.assertEqual(taken_off(DECIMAL, (0, 0, 1), (1,)), ((9, 9), (1, 1, 0)))

    def test_empty_rows_and_nothing_left(self):
        for scale in (NOTHING, CLOCK, DECIMAL):
            self.assertEqual(taken_off(scale, (), ()), ((), ()))
        self.assertEqual(taken_off(CLOCK, (5, 2), ()), ((5, 2), (0, 0)))
        self.assertEqual(taken_off(CLOCK, (5, 2, 1), (5, 2, 1)), ((), (0, 0, 0)))

    def test_noughts_behind(self):
        self.assertEqual(taken_off(CLOCK, (5, 0, 0), (1,)), ((4,), (0, 0, 0)))
        self.assertEqual(taken_off(CLOCK, (5,), (1, 0, 0)), ((4,), (0, 0, 0)))
        self.assertEqual(taken_off(CLOCK, (), (0, 0)), ((), (0, 0)))

    def test_too_small(self):
        self.assertRaises(TooSmall, taken_off, CLOCK, (), (1,))
        self.assertRaises(TooSmall, taken_off, CLOCK, (5, 2), (6, 2))
        self.assertRaises(TooSmall, taken_off, CLOCK, (59, 59), (0, 0, 1))
        self.assertRaises(TooSmall, taken_off, CLOCK, (5, 0, 0), (6,))
        self.assertRaises(TooSmall, taken_off, SMALL, (0, 2), (1, 2))
        self.assertRaises(TooSmall, taken_off, DECIMAL, (9, 9), (0, 0, 1))

    def test_all_small_rows_are_what_the_numbers_are(self):
        for bases in ((), (2,), (2, 3), (3, 2, 2)):
            scale = (bases, ())
            for one, other in itertools.product(all_rows(bases), repeat=2):
                left = number_of(scale, one) - number_of(scale, other)
                if left < 0:
                    self.assertRaises(TooSmall, taken_off, scale, one, other)
                    continue
                behind = worths_behind(scale, max(len(one), len(other)))
                lent = tuple(
                    int(number_of(scale, one) % worth < number_of(scale, other) % worth) for worth in behind
                )
                self.assertEqual(taken_off(scale, one, other), (digits_of(scale, left), lent))


class SumShownTest(unittest.TestCase):
    def assert_shown(self, *asked):
        with self.subTest(asked=asked):
            self.assertIs(sum_shown(*asked), True)

    def assert_not_shown(self, *asked):
        with self.subTest(asked=asked):
            self.assertIs(sum_shown(*asked), False)

    def test_true_carries(self):
        self.assert_shown(CLOCK, (50, 59, 1), (20, 0, 2), (10, 0, 4), (1, 1, 0))
        self.assert_shown(DECIMAL, (9, 9), (1,), (0, 0, 1), (1, 1))
        self.assert_shown(DECIMAL, (1,), (9, 9), (0, 0, 1), (1, 1))
        self.assert_shown(NOTHING, (), (), (), ())
        self.assert_shown(CLOCK, (5, 0, 0), (1,), (6,), (0, 0, 0))
        self.assert_shown(CLOCK, (0,), (0, 0), (), (0, 0))

    def test_noughts_behind_the_sum(self):
        self.assert_shown(CLOCK, (1,), (2,), (3, 0, 0), (0,))
        self.assert_shown(CLOCK, (), (), (0, 0, 0), ())
        self.assert_shown(DECIMAL, (9, 9), (1,), (0, 0, 1, 0, 0, 0), (1, 1))
        self.assert_shown(CLOCK, (59, 59), (1,), (0, 0, 1), (1, 1))

    def test_one_digit_otherwise(self):
        one, other, digits, carries = (9, 9), (1, 5), (0, 5, 1), (1, 1)
        self.assert_shown(DECIMAL, one, other, digits, carries)
        for place in range(3):
            for digit in range(10):
                if digit != digits[place]:
                    changed = digits[:place] + (digit,) + digits[place + 1:]
                    self.assert_not_shown(DECIMAL, one, other, changed, carries)
        self.assert_not_shown(DECIMAL, (8, 9), other, digits, carries)
        self.assert_not_shown(DECIMAL, one, (1, 4), digits, carries)

    def test_a_digit_too_many_behind_the_sum(self):
        self.assert_not_shown(DECIMAL, (1,), (2,), (3, 1), (0,))
        self.assert_not_shown(DECIMAL, (1,), (2,), (3, 0, 1), (0,))
        self.assert_not_shown(DECIMAL, (9,), (2,), (1, 1, 1), (1,))
        self.assert_not_shown(DECIMAL, (9,), (2,), (1, 1, 0, 1), (1,))
        self.assert_not_shown(DECIMAL, (), (), (1,), ())
        self.assert_not_shown(DECIMAL, (), (), (0, 1), ())

    def test_one_carry_otherwise(self):
        one, other, digits, carries = (9, 9, 1), (1, 5), (0, 5, 2), (1, 1, 0)
        self.assert_shown(DECIMAL, one, other, digits, carries)
        for place in range(3):
            for carry in (-10 ** 59, -2, -1, 0, 1, 2, 10, 10 ** 59):
                if carry != carries[place]:
                    changed = carries[:place] + (carry,) + carries[place + 1:]
                    self.assert_not_shown(DECIMAL, one, other, digits, changed)

    def test_one_carry_more_or_fewer(self):
        self.assert_not_shown(DECIMAL, (9, 1), (1,), (0, 2), (1,))
        self.assert_not_shown(DECIMAL, (9, 1), (1,), (0, 2), (1, 0, 0))
        self.assert_not_shown(DECIMAL, (9, 1), (1,), (0, 2), ())
        self.assert_not_shown(DECIMAL, (9, 9), (1,), (0, 0, 1), (1, 1, 0))
        self.assert_not_shown(DECIMAL, (), (), (), (0,))
        self.assert_not_shown(DECIMAL, (1, 0), (2,), (3,), (0,))
        self.assert_not_shown(DECIMAL, (1,), (2,), (3, 0), (0, 0))

    def test_a_wrong_last_carry(self):
        self.assert_not_shown(DECIMAL, (9,), (1,), (0,), (1,))
        self.assert_not_shown(DECIMAL, (9,), (1,), (0, 1), (0,))
        self.assert_not_shown(DECIMAL, (9,), (1,), (0, 2), (1,))
        self.assert_not_shown(DECIMAL, (1,), (1,), (2, 1), (1,))
        self.assert_not_shown(DECIMAL, (1,), (1,), (2,), (1,))

    def test_carries_that_would_fit_digits_that_are_none(self):
        self.assert_not_shown(DECIMAL, (9,), (9,), (18,), (0,))
        self.assert_not_shown(DECIMAL, (1,), (2,), (-7, 1), (1,))
        self.assert_not_shown(DECIMAL, (1,), (2,), (13, -1), (-1,))
        self.assert_not_shown(DECIMAL, (12,), (9,), (1, 2), (2,))
        self.assert_not_shown(DECIMAL, (3,), (-1,), (2,), (0,))

    def test_rows_that_are_none_are_not_refused(self):
        for wrong in ((10,), (-1,), (1, 10), (-10 ** 59,), (10 ** 59, 0)):
            self.assert_not_shown(DECIMAL, wrong, (1,), (2,), (0,) * max(1, len(wrong)))
            self.assert_not_shown(DECIMAL, (1,), wrong, (2,), (0,) * max(1, len(wrong)))
            self.assert_not_shown(DECIMAL, (1,), (1,), wrong, (0,))

    def test_noughts_at_places_that_there_are_not(self):
        self.assert_shown(SMALL, (1, 1), (0, 1), (1, 2), (0, 0))
        self.assert_not_shown(SMALL, (1, 1, 0), (0, 1), (1, 2), (0, 0, 0))
        self.assert_not_shown(SMALL, (1, 1), (0, 1, 0), (1, 2), (0, 0, 0))
        self.assert_not_shown(SMALL, (1, 1), (0, 1), (1, 2, 0), (0, 0))
        self.assert_not_shown(NOTHING, (), (), (0,), ())
        self.assert_not_shown(NOTHING, (0,), (0,), (), (0,))

    def test_a_last_carry_without_a_place(self):
        self.assert_not_shown(SMALL, (1, 2), (1,), (), (1, 1))
        self.assert_not_shown(SMALL, (1, 2), (1,), (0, 0), (1, 1))
        self.assert_not_shown(SMALL, (1, 2), (1,), (0, 0, 1), (1, 1))

    def test_just_the_told_carries_and_sum_are_let_by(self):
        scale = SMALL
        rows = all_rows(SMALL[0])
        for one, other in itertools.product(rows, repeat=2):
            try:
                told = added(scale, one, other)
            except TooGreat:
                told = None
            many = max(len(one), len(other))
            for digits in rows:
                for carries in itertools.product((-1, 0, 1, 2), repeat=many):
                    alike = told is not None and carries == told[1]
                    right = alike and number_of(scale, digits) == number_of(scale, told[0])
                    self.assertIs(sum_shown(scale, one, other, digits, carries), right)


if __name__ == "__main__":
    unittest.main()
