"""Promises [10] and [11]: orders of things, their numbers, the next one, and how far two lie apart."""

import itertools
import math
import unittest

from asked import mixed_numbers, refused
from mixedscales.errors import NoOrder, TooGreat
from mixedscales.orders import next_order, order_number, order_of, orders_apart

NO_ORDERS = (
    (1,), (-1,), (2,), (10 ** 59,),
    (0, 0), (1, 1), (0, 2), (1, 2), (0, -1), (-1, 1),
    (0, 1, 1), (0, 1, 3), (1, 2, 3), (2, 0, 2), (0, 1, -2), (0, 2, 1, 4), (3, 1, 0, -1),
    tuple(range(1, 31)), tuple(range(29)) + (28,), tuple(range(29)) + (30,), tuple(range(-1, 29)),
)


def all_orders(many):
    """Every order of many things, in the order of tuples."""
    return sorted(itertools.permutations(range(many)))


def number_by_digits(order):
    """The number, each digit counted as it is told: behind the (i + 2)-th from the end, the lesser ones."""
    number = 0
    for place in range(len(order) - 1):
        at = len(order) - (place + 2)
        less = sum(1 for thing in order[at + 1:] if thing < order[at])
        number += less * math.factorial(place + 1)
    return number


class NumberTest(unittest.TestCase):
    def test_ordinary(self):
        self.assertEqual(order_number((2, 0, 1)), 4)
        self.assertEqual(order_number((1, 3, 0, 2)), 10)
        self.assertEqual(order_of(3, 4), (2, 0, 1))
        self.assertEqual(order_of(4, 10), (1, 3, 0, 2))

    def test_of_none_and_of_one(self):
        self.assertEqual(order_number(()), 0)
        self.assertEqual(order_of(0, 0), ())
        self.assertEqual(order_number((0,)), 0)
        self.assertEqual(order_of(1, 0), (0,))

    def test_all_orders_of_few_in_the_order_of_tuples(self):
        for many in range(8):
            orders = all_orders(many)
            self.assertEqual(len(orders), math.factorial(many))
            self.assertEqual([order_number(order) for order in orders], list(range(len(orders))))
            self.assertEqual([order_of(many, number) for number in range(len(orders))], orders)

    def test_the_first_and_the_last_order(self):
        for many in range(31):
            first = tuple(range(many))
            self.assertEqual(order_number(first), 0)
            self.assertEqual(order_of(many, 0), first)
            self.assertEqual(order_number(first[::-1]), math.factorial(many) - 1)
            self.assertEqual(order_of(many, math.factorial(many) - 1), first[::-1])

    def test_number_and_order_lead_back(self):
        for many in range(31):
            for number in mixed_numbers(30, math.factorial(many)):
                order = order_of(many, number)
                self.assertEqual(sorted(order), list(range(many)))
                self.assertEqual(number_by_digits(order), number)
                self.assertEqual(order_number(order), number)

    def test_no_order(self):
        for order in NO_ORDERS:
            with self.subTest(order=order):
                refused(self, NoOrder, order_number, order)

    def test_all_tuples_of_few_numbers(self):
        for many in range(5):
            for order in itertools.product(range(-1, many + 1), repeat=many):
                if sorted(order) == list(range(many)):
                    self.assertEqual(order_number(order), number_by_digits(order))
                else:
                    refused(self, NoOrder, order_number, order)
                    refused(self, NoOrder, next_order, order)

    def test_too_great_just_from_the_end_on(self):
        for many in range(31):
            end = math.factorial(many)
            for number in (end, end + 1, 2 * end, end * 10 ** 20, -1, -2, -end, -10 ** 59):
                with self.subTest(many=many, number=number):
                    refused(self, TooGreat, order_of, many, number)


class NextTest(unittest.TestCase):
    def test_ordinary(self):
        self.assertEqual(next_order((0, 1, 2)), (0, 2, 1))
        self.assertEqual(next_order((1, 3, 2, 0)), (2, 0, 1, 3))
        self.assertEqual(next_order((0, 4, 2, 3, 1)), (0, 4, 3, 1, 2))

    def test_all_orders_of_few(self):
        for many in range(8):
            orders = all_orders(many)
            self.assertEqual([next_order(order) for order in orders], orders[1:] + [None])

    def test_the_last_ones_next_is_none(self):
        for many in range(31):
            self.assertIsNone(next_order(tuple(range(many))[::-1]))

    def test_its_number_is_one_more(self):
        for many in range(2, 31):
            for number in mixed_numbers(30, math.factorial(many) - 1) + [0, math.factorial(many) - 2]:
                self.assertEqual(next_order(order_of(many, number)), order_of(many, number + 1))

    def test_no_order(self):
        for order in NO_ORDERS:
            with self.subTest(order=order):
                refused(self, NoOrder, next_order, order)


class ApartTest(unittest.TestCase):
    def test_ordinary(self):
        self.assertEqual(orders_apart((0, 1, 2), (2, 1, 0)), 5)
        self.assertEqual(orders_apart((2, 1, 0), (0, 1, 2)), -5)
        self.assertEqual(orders_apart((1, 3, 0, 2), (1, 3, 0, 2)), 0)
        self.assertEqual(orders_apart((), ()), 0)
        self.assertEqual(orders_apart((0,), (0,)), 0)

    def test_all_orders_of_few(self):
        for many in range(5):
            for (less, one), (great, other) in itertools.product(enumerate(all_orders(many)), repeat=2):
                self.assertEqual(orders_apart(one, other), great - less)

    def test_many_things(self):
        for many in range(2, 31):
            numbers = mixed_numbers(12, math.factorial(many)) + [0, math.factorial(many) - 1]
            for one, other in zip(numbers, numbers[::-1]):
                self.assertEqual(orders_apart(order_of(many, one), order_of(many, other)), other - one)

    def test_no_order_in_either(self):
        for order in NO_ORDERS:
            with self.subTest(order=order):
                right = tuple(range(len(order)))
                refused(self, NoOrder, orders_apart, order, right)
                refused(self, NoOrder, orders_apart, right, order)
                refused(self, NoOrder, orders_apart, order, order)

    def test_unlike_lengths(self):
        rows = [tuple(range(many)) for many in range(6)] + [tuple(range(30))]
        for one, other in itertools.permutations(rows, 2):
            refused(self, NoOrder, orders_apart, one, other)
            refused(self, NoOrder, orders_apart, one[::-1], other)

    def test_unlike_lengths_and_no_order(self):
        refused(self, NoOrder, orders_apart, (0, 0), (0,))
        refused(self, NoOrder, orders_apart, (), (7,))


if __name__ == "__main__":
    unittest.main()
