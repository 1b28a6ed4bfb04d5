"""Promises [18] and [19]: sums paid with fewest pieces, and all the ways in which they are paid."""

import math
import unittest

from asked import mixed_numbers, refused
from mixedscales.errors import TooGreat
from mixedscales.money import paid, way_at, ways_many

SMALL = (
    ((), ()),
    ((2,), ()),
    ((7,), ()),
    ((2, 2), ()),
    ((3, 2), ()),
    ((2, 5), ()),
    ((5, 2, 2), ()),
    ((2, 2, 2, 2), ()),
    ((2, 2, 2, 2, 2), ()),
    ((3, 2, 2, 3, 2), ()),
    ((12, 20), ()),
)
GREAT = (
    ((), ()),
    ((10 ** 6,), ()),
    ((2,), ()),
    ((4, 12, 20), ()),
    ((10, 10, 10, 10), ()),
    ((2, 2, 2, 2, 2), ()),
    ((10 ** 6,) * 5, ()),
    ((999983, 2, 7, 10 ** 6, 3), ()),
)
GREAT_SUMS = (10 ** 60 - 1, 10 ** 59, 10 ** 30, 2 ** 199, 10 ** 6, 10 ** 30 - 1)


def worths_of(scale):
    """What the pieces are worth, the least first."""
    return [math.prod(scale[0][:many]) for many in range(len(scale[0]) + 1)]


def all_payings(worths, number):
    """All ways to pay, by how many of the greatest piece, then of the next one, and so on, the fewest first."""
    if len(worths) == 1:
        return [(number,)]
    ways = []
    for many in range(number // worths[-1] + 1):
        ways.extend(way + (many,) for way in all_payings(worths[:-1], number - many * worths[-1]))
    return ways


def counted(worths, end):
    """In how many ways each sum below end is paid, counted piece by piece."""
    ways = [1] + [0] * (end - 1)
    for worth in worths:
        for number in range(worth, end):
            ways[number] += ways[number - worth]
    return ways


def great_places(many):
    """Numbers of ways: the first, the last, and some between."""
    places = {0, 1, 2, many // 3, many // 2, many - 3, many - 2, many - 1}
    places.update(mixed_numbers(8, many))
    return sorted(place for place in places if 0 <= place < many)


class PaidTest(unittest.TestCase):
    def test_ordinary(self):
        self.assertEqual(paid(((12, 20), ()), 1000), ((4, 3, 4), 11))
        self.assertEqual(paid(((12, 20), ()), 240), ((0, 0, 1), 1))
        self.assertEqual(paid(((12, 20), ()), 239), ((11, 19, 0), 30))
        self.assertEqual(paid(((12, 20), ()), 5), ((5, 0, 0), 5))

    def test_no_bases(self):
        for number in (0, 1, 17, 10 ** 60 - 1):
            self.assertEqual(paid(((), ()), number), ((number,), number))

    def test_nothing_to_pay(self):
        for scale in SMALL + GREAT:
            self.assertEqual(paid(scale, 0), ((0,) * (len(scale[0]) + 1), 0))

    def test_no_paying_has_fewer(self):
        for scale in SMALL:
            worths = worths_of(scale)
            for number in range(60):
                row, many = paid(scale, number)
                payings = all_payings(worths, number)
                self.assertIn(row, payings)
                self.assertEqual(many, sum(row))
                self.assertEqual(many, min(sum(paying) for paying in payings))

    def test_great_sums(self):
        for scale in GREAT:
            worths = worths_of(scale)
            for number in GREAT_SUMS + tuple(mixed_numbers(10, 10 ** 60)):
                row, many = paid(scale, number)
                self.assertEqual(len(row), len(worths))
                self.assertEqual(sum(pieces * worth for pieces, worth in zip(row, worths)), number)
                self.assertTrue(all(0 <= pieces < base for pieces, base in zip(row, scale[0])))
                self.assertEqual(many, sum(row))


class WaysTest(unittest.TestCase):
    def test_ordinary(self):
        self.assertEqual(ways_many(((5, 2), ()), 10), 4)
        self.assertEqual([way_at(((5, 2), ()), 10, place) for place in range(4)], [
            (10, 0, 0), (5, 1, 0), (0, 2, 0), (0, 0, 1)
        ])

    def test_no_bases(self):
        for number in (0, 1, 17, 10 ** 60 - 1):
            self.assertEqual(ways_many(((), ()), number), 1)
            self.assertEqual(way_at(((), ()), number, 0), (number,))
            for place in (-1, 1, 10 ** 70):
                refused(self, TooGreat, way_at, ((), ()), number, place)

    def test_nothing_to_pay(self):
        for scale in SMALL + GREAT:
            self.assertEqual(ways_many(scale, 0), 1)
            self.assertEqual(way_at(scale, 0, 0), (0,) * (len(scale[0]) + 1))
            refused(self, TooGreat, way_at, scale, 0, 1)
            refused(self, TooGreat, way_at, scale, 0, -1)

    def test_all_ways_of_small_sums(self):
        for scale in SMALL:
            for number in list(range(50)) + [97]:
                ways = all_payings(worths_of(scale), number)
                self.assertEqual(ways, sorted(ways, key=lambda way: way[::-1]))
                self.assertEqual(ways_many(scale, number), len(ways))
                self.assertEqual([way_at(scale, number, place) for place in range(len(ways))], ways)

    def test_how_many_ways_of_sums_to_some_hundreds(self):
        for scale in SMALL + (((4, 3, 2), ()), ((3, 3, 3, 3, 3), ()), ((2, 7, 2, 3, 5), ())):
            counts = counted(worths_of(scale), 700)
            self.assertEqual([ways_many(scale, number) for number in range(700)], counts)

    def test_how_many_ways_of_great_sums(self):
        number = 10 ** 60 - 1
        self.assertEqual(ways_many(((2,), ()), number), number // 2 + 1)
        self.assertEqual(ways_many(((10 ** 6,), ()), number), number // 10 ** 6 + 1)
        # With b of the one and c times b of the greatest piece: all counts of the greatest are gone through.
        for first, second in ((2, 2), (12, 20), (10 ** 6, 7)):
            for number in GREAT_SUMS:
                most, rest = divmod(number, first * second)
                of_first = rest // first
                expected = (most + 1) * (of_first + 1) + second * most * (most + 1) // 2
                self.assertEqual(ways_many(((first, second), ()), number), expected)

    def test_one_piece_more_by_one(self):
        # The ways with some of the greatest piece are those of the sum less that piece.
        for scale in GREAT[1:]:
            lesser = (scale[0][:-1], ())
            for number in GREAT_SUMS + tuple(mixed_numbers(5, 10 ** 60)):
                worth = math.prod(scale[0])
                more = ways_many(scale, number - worth) if number >= worth else 0
                self.assertEqual(ways_many(scale, number), ways_many(lesser, number) + more)

    def test_ways_of_great_sums(self):
        for scale in GREAT:
            worths = worths_of(scale)
            for number in GREAT_SUMS:
                many = ways_many(scale, number)
                before = None
                for place in great_places(many):
                    way = way_at(scale, number, place)
                    self.assertEqual(len(way), len(worths))
                    self.assertTrue(all(pieces >= 0 for pieces in way))
                    self.assertEqual(sum(pieces * worth for pieces, worth in zip(way, worths)), number)
                    self.assertEqual(self.ways_ahead(scale, number, way), place)
                    if before is not None:
                        self.assertLess(before, way[::-1])
                    before = way[::-1]

    def ways_ahead(self, scale, number, way):
        """How many ways have fewer of the greatest piece, then of the next one, and so on."""
        ahead = 0
        left = number
        for piece in range(len(way) - 1, 0, -1):
            bases = (scale[0][:piece], ())
            ahead += ways_many(bases, left)
            left -= way[piece] * math.prod(scale[0][:piece])
            ahead -= ways_many(bases, left)
        return ahead

    def test_the_first_and_the_last_way(self):
        for scale in SMALL + GREAT:
            for number in (1, 23, 10 ** 6, 10 ** 59 + 7):
                self.assertEqual(way_at(scale, number, 0), (number,) + (0,) * len(scale[0]))
                self.assertEqual(way_at(scale, number, ways_many(scale, number) - 1), paid(scale, number)[0])

    def test_no_such_way(self):
        for scale in SMALL + GREAT:
            for number in (0, 1, 23, 10 ** 6, 10 ** 60 - 1):
                many = ways_many(scale, number)
                for place in (-1, -2, -many, -10 ** 59, many, many + 1, 2 * many, many * 10 ** 60):
                    refused(self, TooGreat, way_at, scale, number, place)


if __name__ == "__main__":
    unittest.main()
