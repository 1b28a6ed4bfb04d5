"""Promises [20] and [21]: the least scales that reach a number, and scales of told worths."""

import itertools
import math
import unittest

from asked import refused
from mixedscales.errors import NoPlace
from mixedscales.least import least_scale, scale_with
from mixedscales.scales import worth_at

SCALES_WITH = (
    ((2,), (2,)),
    ((10 ** 59,), (10 ** 59,)),
    ((60, 3600, 86400), (60, 60, 24)),
    ((86400, 60, 3600), (60, 60, 24)),
    ((12, 240), (12, 20)),
    ((240, 12, 240, 12, 12), (12, 20)),
    ((7, 7, 7, 7, 7, 7, 7, 7), (7,)),
    ((2, 4, 8, 16, 32, 64, 128, 256), (2,) * 8),
    ((256, 2, 128, 4, 64, 8, 32, 16), (2,) * 8),
    ((6, 36), (6, 6)),
    ((2, 10 ** 59), (2, 5 * 10 ** 58)),
    ((3, 3, 6, 6, 30, 30), (3, 2, 5)),
)
NO_SCALES_WITH = (
    (2, 3), (3, 2), (4, 6), (6, 4), (2, 4, 6), (2, 3, 6), (6, 3, 2), (10, 15, 30), (60, 90), (2, 2, 3), (2, 3, 3),
    (10 ** 59, 10 ** 59 + 1), (7, 49, 342), (5, 2, 4, 8, 16, 32, 64, 128),
)


def rising_rows(count, total, low=2):
    """All rising rows of so many bases of this sum, in the order of tuples."""
    if count == 0:
        if total == 0:
            yield ()
        return
    for base in range(low, total // count + 1):
        for behind in rising_rows(count - 1, total - base, base):
            yield (base,) + behind


def first_with(count, number):
    """The pair of the paper for a count, by going through all rows of bases, one sum after another."""
    for total in itertools.count(2 * count):
        for bases in rising_rows(count, total):
            if math.prod(bases) >= number:
                return (total, bases)


def count_of(number):
    """The least k with 2 ** k no less than the number."""
    return next(count for count in itertools.count() if 2 ** count >= number)


def even_product(count, total):
    """The greatest product of so many numbers of this sum."""
    less, greater = divmod(total, count)
    return less ** (count - greater) * (less + 1) ** greater


def least_ever(number):
    """The least sum of bases whose product reaches the number: 3s, and 2s or 4s where these leave something."""
    return next(
        total for total in itertools.count()
        if max([math.prod([3] * threes) * 2 ** ((total - 3 * threes) // 2)
                for threes in range(total // 3 + 1) if (total - 3 * threes) % 2 == 0], default=0) >= number
    )


class LeastScaleTest(unittest.TestCase):
    def look_at(self, number):
        """What holds of any number: the paper's form, its sums, its products, and which of it is told."""
        told = least_scale(number)
        self.assertIs(type(told), tuple)
        bases, paper = told
        self.assertIs(type(paper), tuple)
        self.assertEqual(len(paper), count_of(number))
        for count, pair in enumerate(paper, start=1):
            self.assertIs(type(pair), tuple)
            total, first = pair
            self.assertIs(type(first), tuple)
            self.assertEqual(len(first), count)
            self.assertEqual(list(first), sorted(first))
            self.assertGreaterEqual(first[0], 2)
            self.assertEqual(sum(first), total)
            self.assertGreaterEqual(math.prod(first), number)
            self.assertTrue(total == 2 * count or even_product(count, total - 1) < number)
            self.look_at_first(number, first)
        if paper:
            self.assertEqual(bases, min(paper, key=lambda pair: (pair[0], len(pair[1])))[1])
        return told

    def look_at_first(self, number, first):
        """No base could be less by one, the others behind it as even as can be."""
        for at in range(len(first) - 1):
            less = first[at] - 1
            if less < 2 or at > 0 and less < first[at - 1]:
                continue
            others = len(first) - at - 1
            most = math.prod(first[:at]) * less * even_product(others, sum(first[at:]) - less)
            self.assertLess(most, number)

    def test_the_least_numbers(self):
        self.assertEqual(least_scale(1), ((), ()))
        self.assertEqual(least_scale(2), ((2,), ((2, (2,)),)))
        self.assertEqual(least_scale(3), ((3,), ((3, (3,)), (4, (2, 2)))))
        self.assertEqual(least_scale(4), ((4,), ((4, (4,)), (4, (2, 2)))))
        self.assertEqual(least_scale(5), ((5,), ((5, (5,)), (5, (2, 3)), (6, (2, 2, 2)))))
        self.assertEqual(least_scale(7)[0], (2, 4))

    def test_ordinary(self):
        bases, paper = least_scale(1000)
        self.assertEqual(bases, (4, 4, 4, 4, 4))
        self.assertEqual(paper[:5], (
            (1000, (1000,)), (64, (28, 36)), (30, (10, 10, 10)), (23, (4, 6, 6, 7)), (20, (4, 4, 4, 4, 4))
        ))
        self.assertEqual(paper[-1], (20, (2,) * 10))

    def test_all_numbers_to_some_hundreds(self):
        for number in range(1, 400):
            bases, paper = self.look_at(number)
            expected = tuple(first_with(count, number) for count in range(1, count_of(number) + 1))
            self.assertEqual(paper, expected)
            best = min([(0, 0, ())] if number == 1 else [(pair[0], len(pair[1]), pair[1]) for pair in expected])
            self.assertEqual(bases, best[2])

    def test_against_all_rows_of_bases_whatever_their_count(self):
        for number in range(1, 130):
            every = [(sum(row), len(row), row)
                     for count in range(9) for total in range(2 * count, 16) for row in rising_rows(count, total)
                     if math.prod(row) >= number]
            self.assertEqual(least_scale(number)[0], min(every)[2])

    def test_powers_of_2_and_3_and_their_neighbours(self):
        for power in [2 ** many for many in range(40)] + [3 ** many for many in range(26)]:
            for number in (power - 1, power, power + 1):
                if number > 0:
                    bases = self.look_at(number)[0]
                    self.assertEqual(sum(bases), least_ever(number))

    def test_great_numbers(self):
        for number in (10 ** 12, 10 ** 12 - 1, 10 ** 11 + 7, 999999999989, 123456789012, 10 ** 6, 999983, 6 ** 15):
            bases = self.look_at(number)[0]
            self.assertEqual(sum(bases), least_ever(number))
        self.assertEqual(least_scale(10 ** 12)[1][:3], (
            (10 ** 12, (10 ** 12,)), (2 * 10 ** 6, (10 ** 6, 10 ** 6)), (30000, (10000, 10000, 10000))
        ))

    def test_two_bases_of_great_numbers(self):
        for number in (10 ** 12, 10 ** 12 - 1, 10 ** 12 - 10 ** 6, 10 ** 9 + 7, 123456789012):
            total, first = least_scale(number)[1][1]
            least = math.isqrt(4 * number - 1) + 1
            self.assertEqual(total, least)
            less = next(base for base in range(2, total) if base * (total - base) >= number)
            self.assertEqual(first, (less, total - less))


class ScaleWithTest(unittest.TestCase):
    def test_there_is_one(self):
        for numbers, head in SCALES_WITH:
            told = scale_with(numbers)
            self.assertEqual(told, (head, ()))
            self.assertTrue(type(told) is tuple and type(told[0]) is tuple and type(told[1]) is tuple)

    def test_no_numbers(self):
        self.assertEqual(scale_with(()), ((), ()))

    def test_in_whatever_order(self):
        for numbers in itertools.permutations((2, 2, 6, 24, 240)):
            self.assertEqual(scale_with(numbers), ((2, 3, 4, 10), ()))

    def test_all_are_worths_or_the_product_of_all(self):
        for numbers, head in SCALES_WITH:
            scale = scale_with(numbers)
            worths = [worth_at(scale, place) for place in range(len(head))] + [math.prod(scale[0])]
            self.assertTrue(set(numbers) <= set(worths))
            # Each unlike number needs a base of its own.
            self.assertEqual(len(scale[0]), len(set(numbers)))

    def test_there_is_none(self):
        for numbers in NO_SCALES_WITH:
            for turned in (numbers, numbers[::-1], numbers[1:] + numbers[:1]):
                refused(self, NoPlace, scale_with, turned)

    def test_all_few_numbers(self):
        for numbers in itertools.product(range(2, 25), repeat=3):
            rising = sorted(set(numbers))
            if all(more % less == 0 for less, more in zip(rising, rising[1:])):
                head = tuple(more // less for less, more in zip([1] + rising, rising))
                self.assertEqual(scale_with(numbers), (head, ()))
            else:
                refused(self, NoPlace, scale_with, numbers)


if __name__ == "__main__":
    unittest.main()
