"""Promises [12] and [13]: fractions as digits that end or go round, and told back."""

import math
import unittest
from fractions import Fraction

from asked import bases_of, refused, refused_digit
from mixedscales.errors import NoDigit, NoEnd
from mixedscales.fractions import fraction_digits, fraction_of

NOTHING = ((), ())
CLOCK = ((60, 60, 24), ())
SMALL = ((2, 3), ())
DECIMAL = ((), (10,))
TWO = ((), (2,))
TURNS = ((), (2, 5, 3))
BOTH = ((4, 3), (2, 5, 7))
DAYS = ((60, 60, 24), (7,))
TENS = ((), (10, 10))
TWELVE = (tuple(range(2, 14)), tuple(range(3, 15)))
GREAT = ((10 ** 6,), tuple(10 ** 6 - step for step in range(12)))
ROUND = (DECIMAL, TWO, TURNS, BOTH, DAYS, TENS, ((6,), (6,)), ((3,), (4, 4, 4)), ((7, 2), (2, 3)))
ENDS = (CLOCK, SMALL, NOTHING, ((7,), ()), ((2, 2, 5, 10), ()))


def fractions_below(most):
    """All fractions from 0 on, less than 1, of belows to most."""
    return [
        (above, below)
        for below in range(1, most + 1)
        for above in range(below)
        if math.gcd(above, below) == 1
    ]


def row_worth(bases, digits):
    """What digits of these bases are worth behind the point, each by itself."""
    worth = Fraction(0)
    product = 1
    for base, digit in zip(bases, digits):
        product *= base
        worth += Fraction(digit, product)
    return worth


def worth_of(scale, digits, ring):
    """What digits, and ring round and round behind them, are worth: (above, below)."""
    bases = bases_of(scale, len(digits) + len(ring))
    worth = row_worth(bases, digits)
    if ring:
        once = math.prod(bases[len(digits):])
        behind = row_worth(bases[len(digits):], ring) * Fraction(once, once - 1)
        worth += behind / math.prod(bases[:len(digits)])
    return (worth.numerator, worth.denominator)


def first_digits(scale, fraction, many):
    """The first digits by the whole parts alone."""
    above, below = fraction
    bases = bases_of(scale, many)
    return [above * math.prod(bases[:at + 1]) // below % bases[at] for at in range(len(bases))]


class OrdinaryTest(unittest.TestCase):
    def test_ends(self):
        self.assertEqual(fraction_digits(DECIMAL, (1, 4)), ((2, 5), ()))
        self.assertEqual(fraction_digits(CLOCK, (1, 7200)), ((0, 0, 12), ()))
        self.assertEqual(fraction_digits(BOTH, (1, 12)), ((0, 1), ()))
        self.assertEqual(fraction_digits(BOTH, (1, 24)), ((0, 0, 1), ()))

    def test_goes_round(self):
        self.assertEqual(fraction_digits(DECIMAL, (1, 3)), ((), (3,)))
        self.assertEqual(fraction_digits(DECIMAL, (1, 6)), ((1,), (6,)))
        self.assertEqual(fraction_digits(DECIMAL, (1, 7)), ((), (1, 4, 2, 8, 5, 7)))
        self.assertEqual(fraction_digits(TWO, (1, 3)), ((), (0, 1)))

    def test_nought(self):
        for scale in ROUND + ENDS:
            self.assertEqual(fraction_digits(scale, (0, 1)), ((), ()))

    def test_ring_is_as_long_as_goings_round(self):
        self.assertEqual(fraction_digits(TENS, (1, 3)), ((), (3, 3)))
        self.assertEqual(fraction_digits(((3,), (4, 4, 4)), (1, 9)), ((0,), (1, 1, 1)))

    def test_ring_may_begin_within_a_going_round(self):
        self.assertEqual(fraction_digits(TENS, (1, 6)), ((1,), (6, 6)))
        self.assertEqual(fraction_digits(((), (2, 3)), (1, 10)), ((0,), (0, 1)))

    def test_as_many_digits_as_head_has_bases(self):
        self.assertEqual(fraction_digits(((10,), (10,)), (1, 3)), ((3,), (3,)))
        self.assertEqual(fraction_digits(((10, 10, 10), (10,)), (1, 3)), ((3, 3, 3), (3,)))
        self.assertEqual(fraction_digits(((3,), (10,)), (1, 9)), ((0,), (3,)))

    def test_an_end_may_come_within_head(self):
        self.assertEqual(fraction_digits(((10, 10, 10), (10,)), (1, 2)), ((5,), ()))
        self.assertEqual(fraction_of(((10, 10, 10), (10,)), (5,), ()), (1, 2))


class DigitsTest(unittest.TestCase):
    def assert_written(self, scale, fraction, told):
        """The row is right and the shortest, looked at by what is told of it."""
        digits, ring = told
        with self.subTest(scale=scale, fraction=fraction):
            bases = bases_of(scale, len(digits) + len(ring))
            self.assertEqual(len(bases), len(digits) + len(ring))
            self.assertTrue(all(0 <= digit < base for digit, base in zip(digits + ring, bases)))
            if not ring:
                self.assertNotEqual(digits[-1:], (0,))
                return
            head, turn = len(scale[0]), len(scale[1])
            self.assertGreaterEqual(len(digits), head)
            self.assertEqual(len(ring) % turn, 0)
            self.assertNotEqual(ring, tuple(base - 1 for base in bases[len(digits):]))
            if len(digits) > head:
                self.assertNotEqual(digits[-1], ring[-1])
            for many in range(turn, len(ring), turn):
                if len(ring) % many == 0:
                    self.assertNotEqual(ring, ring[:many] * (len(ring) // many))

    def test_small_belows(self):
        for scale in ROUND:
            for fraction in fractions_below(24):
                told = fraction_digits(scale, fraction)
                self.assert_written(scale, fraction, told)
                self.assertEqual(worth_of(scale, *told), fraction)

    def test_digits_are_those_of_the_whole_parts(self):
        for scale in ROUND:
            for fraction in ((1, 7), (5, 12), (13, 37), (100, 101), (998, 999), (1, 1000)):
                digits, ring = fraction_digits(scale, fraction)
                written = list(digits) + list(ring or (0,)) * 60
                self.assertEqual(written[:60], first_digits(scale, fraction, 60)[:len(written)])

    def test_all_belows_to_1000(self):
        for scale in (DECIMAL, ((7, 2), (2, 3))):
            for below in range(1, 1001):
                above = max(at for at in range(below) if math.gcd(at, below) == 1)
                told = fraction_digits(scale, (above, below))
                self.assert_written(scale, (above, below), told)
                self.assertEqual(fraction_of(scale, *told), (above, below))

    def test_great_belows_and_long_rings(self):
        for scale in ROUND + (TWELVE, GREAT):
            for fraction in ((1, 997), (996, 997), (500, 991), (7, 1000), (512, 999), (1, 512), (1, 1001)):
                told = fraction_digits(scale, fraction)
                self.assert_written(scale, fraction, told)
                self.assertEqual(fraction_of(scale, *told), fraction)

    def test_scales_that_end(self):
        for scale in ENDS:
            product = math.prod(scale[0])
            for fraction in fractions_below(60):
                if product % fraction[1] == 0:
                    told = fraction_digits(scale, fraction)
                    self.assertEqual(told[1], ())
                    self.assert_written(scale, fraction, told)
                    self.assertEqual(worth_of(scale, *told), fraction)
                else:
                    refused(self, NoEnd, fraction_digits, scale, fraction)

    def test_no_end_in_the_last_place(self):
        self.assertEqual(fraction_digits(SMALL, (5, 6)), ((1, 2), ()))
        refused(self, NoEnd, fraction_digits, SMALL, (1, 12))
        refused(self, NoEnd, fraction_digits, SMALL, (1, 7))
        refused(self, NoEnd, fraction_digits, NOTHING, (1, 2))
        refused(self, NoEnd, fraction_digits, NOTHING, (999, 1000))

    def test_the_greatest_digits(self):
        for scale in ENDS:
            product = math.prod(scale[0])
            if 1 < product <= 1000:
                greatest = tuple(base - 1 for base in scale[0])
                self.assertEqual(fraction_digits(scale, (product - 1, product)), (greatest, ()))


class ToldBackTest(unittest.TestCase):
    def test_ordinary(self):
        self.assertEqual(fraction_of(DECIMAL, (2, 5), ()), (1, 4))
        self.assertEqual(fraction_of(DECIMAL, (1,), (6,)), (1, 6))
        self.assertEqual(fraction_of(DECIMAL, (), (1, 4, 2, 8, 5, 7)), (1, 7))
        self.assertEqual(fraction_of(CLOCK, (0, 0, 12), ()), (1, 7200))
        self.assertEqual(fraction_of(((), (2, 3)), (0,), (0, 1)), (1, 10))

    def test_nought(self):
        for scale in ROUND + ENDS:
            self.assertEqual(fraction_of(scale, (), ()), (0, 1))
            self.assertEqual(fraction_of(scale, (0,) * len(scale[0]), ()), (0, 1))
            if scale[1]:
                self.assertEqual(fraction_of(scale, (0,) * len(scale[0]), (0,) * len(scale[1])), (0, 1))

    def test_told_rows_over_again(self):
        for scale in ROUND:
            for fraction in fractions_below(15) + [(1, 97), (996, 997), (31, 360)]:
                digits, ring = fraction_digits(scale, fraction)
                self.assertEqual(fraction_of(scale, digits, ring), fraction)
                self.assertEqual(fraction_of(scale, digits, ring * 2), fraction)
                self.assertEqual(fraction_of(scale, digits, ring * 3), fraction)
                self.assertEqual(fraction_of(scale, digits + ring, ring), fraction)
                self.assertEqual(fraction_of(scale, digits + ring, ring * 2), fraction)
                for many in range(min(len(ring), 9)):
                    turned = ring[many:] + ring[:many]
                    self.assertEqual(fraction_of(scale, digits + ring[:many], turned), fraction)

    def test_long_told_rows_over_again(self):
        for scale in (TWELVE, GREAT):
            for fraction in ((1, 971), (500, 991)):
                digits, ring = fraction_digits(scale, fraction)
                self.assertGreater(len(ring), 5000)
                self.assertEqual(fraction_of(scale, digits, ring * 2), fraction)
                self.assertEqual(fraction_of(scale, digits + ring, ring), fraction)
                self.assertEqual(fraction_of(scale, digits + ring[:100], ring[100:] + ring[:100]), fraction)

    def test_first_places_of_a_told_row_put_to_the_digits(self):
        for scale in ROUND:
            for fraction in ((1, 7), (3, 11), (5, 13), (20, 21)):
                digits, ring = fraction_digits(scale, fraction)
                for many in range(min(len(ring), 8)):
                    self.assert_as_worth(scale, digits + ring[:many], ring)

    def assert_as_worth(self, scale, digits, ring):
        """Told as its worth, or refused where a digit is too great where it stands."""
        bases = bases_of(scale, len(digits) + len(ring))
        wrong = [at for at, digit in enumerate(digits + ring) if digit >= bases[at]]
        with self.subTest(scale=scale, digits=digits, ring=ring):
            if wrong:
                refused_digit(self, wrong[0], fraction_of, scale, digits, ring)
            else:
                self.assertEqual(fraction_of(scale, digits, ring), worth_of(scale, digits, ring))

    def test_noughts_behind_the_digits(self):
        for scale in ROUND + ENDS:
            for fraction in fractions_below(12):
                try:
                    digits, ring = fraction_digits(scale, fraction)
                except NoEnd:
                    continue
                for many in (1, 2, 5):
                    behind = digits + (0,) * many
                    if ring:
                        self.assert_as_worth(scale, behind, ring)
                    elif len(behind) <= len(scale[0]) or scale[1]:
                        self.assertEqual(fraction_of(scale, behind, ()), fraction)
                    else:
                        refused_digit(self, len(scale[0]), fraction_of, scale, behind, ())

    def test_greatest_digits_come_to_one(self):
        self.assertEqual(fraction_of(DECIMAL, (), (9,)), (1, 1))
        self.assertEqual(fraction_of(DECIMAL, (4,), (9,)), (1, 2))
        for scale in ROUND + (TWELVE, GREAT):
            head, turn = len(scale[0]), len(scale[1])
            for many in (head, head + 1, head + turn):
                for rounds in (1, 2, 3):
                    greatest = tuple(base - 1 for base in bases_of(scale, many + rounds * turn))
                    self.assertEqual(fraction_of(scale, greatest[:many], greatest[many:]), (1, 1))

    def test_rows_that_were_not_told(self):
        for scale in ROUND + (TWELVE,):
            head, turn = len(scale[0]), len(scale[1])
            for many in (head, head + 1, 19):
                for rounds in (1, 2, 3):
                    bases = bases_of(scale, many + rounds * turn)
                    row = tuple((at * 7 + many) % base for at, base in enumerate(bases))
                    digits, ring = row[:many], row[many:]
                    self.assertEqual(fraction_of(scale, digits, ring), worth_of(scale, digits, ring))
                    self.assertEqual(fraction_of(scale, digits, ()), worth_of(scale, digits, ()))

    def test_no_common_divisor(self):
        for scale in ROUND:
            for ring in ((), (0, 1) * 3 * len(scale[1])):
                above, below = fraction_of(scale, (1,) * (len(scale[0]) + 2), ring)
                self.assertEqual(math.gcd(above, below), 1)
                self.assertGreaterEqual(below, 1)


class RefusedTest(unittest.TestCase):
    def test_a_ring_where_the_scale_ends(self):
        for scale in ENDS:
            noughts = (0,) * len(scale[0])
            for ring in ((0,), (1,), (0, 0), (99, -1)):
                refused(self, NoEnd, fraction_of, scale, noughts, ring)
                refused(self, NoEnd, fraction_of, scale, (), ring)
                refused(self, NoEnd, fraction_of, scale, (-1,), ring)
                refused(self, NoEnd, fraction_of, scale, noughts + (0,), ring)

    def test_a_ring_and_fewer_digits_than_head_has_bases(self):
        refused(self, NoEnd, fraction_of, BOTH, (), (0, 0, 0))
        refused(self, NoEnd, fraction_of, BOTH, (1,), (0, 1, 2))
        refused(self, NoEnd, fraction_of, DAYS, (1, 1), (1,))
        refused(self, NoEnd, fraction_of, DAYS, (60, 1), (7,))
        self.assertEqual(fraction_of(DAYS, (0, 0, 0), (6,)), (1, 86400))

    def test_a_ring_of_another_length(self):
        for many in (1, 2, 4, 5, 7, 8):
            refused(self, NoEnd, fraction_of, TURNS, (), (0,) * many)
            refused(self, NoEnd, fraction_of, BOTH, (0, 0), (0,) * many)
            refused(self, NoEnd, fraction_of, BOTH, (0, 3, 0), (9,) * many)
        for many in (3, 6, 9, 36):
            self.assertEqual(fraction_of(TURNS, (), (0,) * many), (0, 1))

    def test_no_digit_in_the_digits(self):
        refused_digit(self, 0, fraction_of, DECIMAL, (10,), ())
        refused_digit(self, 1, fraction_of, DECIMAL, (9, -1, 10), (10,))
        refused_digit(self, 1, fraction_of, BOTH, (3, 3), (2, 0, 0))
        refused_digit(self, 2, fraction_of, CLOCK, (59, 59, 24), ())
        refused_digit(self, 3, fraction_of, CLOCK, (59, 59, 23, 0), ())
        refused_digit(self, 0, fraction_of, NOTHING, (0,), ())
        refused_digit(self, 18, fraction_of, DECIMAL, (9,) * 18 + (10,), (1,))

    def test_no_digit_in_the_ring_counted_on(self):
        refused_digit(self, 0, fraction_of, DECIMAL, (), (10,))
        refused_digit(self, 3, fraction_of, DECIMAL, (1, 2), (3, 10, -1))
        refused_digit(self, 2, fraction_of, BOTH, (3, 2), (2, 0, 0))
        refused_digit(self, 6, fraction_of, BOTH, (3, 2), (1, 4, 6, 1, 5, 7))
        refused_digit(self, 5, fraction_of, BOTH, (3, 2, 1), (1, 4, 6))
        self.assertEqual(fraction_of(BOTH, (3, 2, 1), (4, 6, 1)), (1, 1))
        refused_digit(self, 19 + 35, fraction_of, DECIMAL, (9,) * 19, (9,) * 35 + (10,))

    def test_each_digit_alone(self):
        row = (3, 2, 1, 4, 6, 1, 4, 6)
        for at in range(len(row)):
            for wrong in (-1, row[at] + 1, 10 ** 59):
                changed = row[:at] + (wrong,) + row[at + 1:]
                refused_digit(self, at, fraction_of, BOTH, changed[:2], changed[2:])
                refused_digit(self, at, fraction_of, BOTH, changed[:5], changed[5:])
                refused_digit(self, at, fraction_of, BOTH, changed, ())

    def test_refused_with_no_end_ahead_of_no_digit(self):
        with self.assertRaises(NoEnd) as caught:
            fraction_of(BOTH, (9, 9), (9,))
        self.assertNotIsInstance(caught.exception, NoDigit)


if __name__ == "__main__":
    unittest.main()
