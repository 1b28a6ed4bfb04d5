"""Promises [1], [2] and [3]: what holds over the whole program."""

import copy
import unittest

from mixedscales.counters import change_at, closed_round, round_shown, row_at, step_of
from mixedscales.errors import ScaleError
from mixedscales.fractions import fraction_digits, fraction_of
from mixedscales.least import least_scale, scale_with
from mixedscales.money import paid, way_at, ways_many
from mixedscales.orders import next_order, order_number, order_of, orders_apart
from mixedscales.others import judged_digits, paper_shown
from mixedscales.products import divided, exchanged, multiplied
from mixedscales.scales import base_at, digits_of, number_of, worth_at
from mixedscales.sums import added, sum_shown, taken_off

CLOCK = ((60, 60, 24), ())
DECIMAL = ((), (10,))
LONG_HEAD = tuple(range(2, 14))
SCALES = (
    ((), (2,)),
    ((), (10,)),
    ((60, 60, 24), (7,)),
    (LONG_HEAD, (3, 7)),
    ((4, 3), (2, 5, 7)),
    (LONG_HEAD, tuple(10 ** 6 - step for step in range(12))),
    ((), (10 ** 6,)),
)
ASKED = (
    (base_at, (CLOCK, 2)),
    (base_at, (CLOCK, 3)),
    (worth_at, (((60,), (7, 2)), 300)),
    (worth_at, (CLOCK, -1)),
    (digits_of, (CLOCK, 3725)),
    (digits_of, (CLOCK, 86400)),
    (number_of, (CLOCK, (5, 2, 1))),
    (number_of, (CLOCK, (5, 60, 1))),
    (added, (CLOCK, (50, 59, 1), (20, 0, 0))),
    (added, (CLOCK, (50, 59, 23), (20,))),
    (taken_off, (CLOCK, (10, 0, 4), (20, 0))),
    (taken_off, (CLOCK, (10,), (20, 0))),
    (sum_shown, (CLOCK, (50,), (20,), (10, 1, 0), (1,))),
    (sum_shown, (CLOCK, (50,), (20,), (10, 1, 0), (0,))),
    (multiplied, (CLOCK, (50, 59, 1), 3)),
    (multiplied, (CLOCK, (50, 59, 1), 86400)),
    (multiplied, (CLOCK, (50, 60), 1)),
    (divided, (CLOCK, (50, 59, 0), 7)),
    (divided, (CLOCK, (50, 59, 24), 7)),
    (exchanged, (CLOCK, DECIMAL, (50, 59, 1))),
    (exchanged, (DECIMAL, CLOCK, (0, 0, 4, 6, 8))),
    (order_number, ((2, 0, 1),)),
    (order_number, ((2, 0, 2),)),
    (order_of, (5, 77)),
    (order_of, (5, 120)),
    (next_order, ((0, 2, 1),)),
    (next_order, ((2, 1, 0),)),
    (orders_apart, ((2, 0, 1), (0, 1, 2))),
    (orders_apart, ((2, 0, 1), (0, 1))),
    (fraction_digits, (((4, 3), (2, 5, 7)), (13, 37))),
    (fraction_digits, (CLOCK, (1, 7))),
    (fraction_of, (DECIMAL, (1,), (6, 6))),
    (fraction_of, (DECIMAL, (1,), (6, 10))),
    (judged_digits, (3, (1, 0, -1))),
    (judged_digits, (4, (2, 1, 0, -1))),
    (judged_digits, (3, (2, 1, 0))),
    (judged_digits, (3, (2, 1, 0, -1))),
    (judged_digits, (3, (999, 1, 0, -1))),
    (paper_shown, (3, (1, 0, -1), {1: (1,), 0: (), -1: (-1,)})),
    (paper_shown, (3, (1, 0, -1), {1: (1,), 0: (), 2: (-1, 1)})),
    (row_at, ((3, 2), 4)),
    (row_at, ((3, 2), 6)),
    (step_of, ((3, 2), (1, 1))),
    (step_of, ((3, 2), (1,))),
    (change_at, ((3, 2), 4)),
    (change_at, ((3, 2), 5)),
    (change_at, ((3, 2), -1)),
    (round_shown, ((2, 2), [(0, 0), (1, 0), (1, 1), (0, 1)])),
    (round_shown, ((2, 2), [(1, 1), (0, 0), (1, 0), (0, 1)])),
    (closed_round, ((3, 4),)),
    (closed_round, ((2,),)),
    (closed_round, ((),)),
    (closed_round, ((3, 3),)),
    (paid, (CLOCK, 10 ** 6)),
    (ways_many, (CLOCK, 10 ** 6)),
    (way_at, (CLOCK, 10 ** 6, 10 ** 4)),
    (way_at, (CLOCK, 10 ** 6, 10 ** 60)),
    (least_scale, (1000,)),
    (least_scale, (1,)),
    (scale_with, ((86400, 60, 60, 3600),)),
    (scale_with, ((60, 90),)),
)


def answer(asked, handed):
    """What is told, or the refusal as (its name, its place)."""
    try:
        return asked(*handed)
    except ScaleError as refusal:
        return (type(refusal).__name__, getattr(refusal, "place", None))


def long_numbers():
    """Whole numbers of up to 60 figures, the same each time."""
    numbers = [0, 1, 10 ** 60 - 1, 10 ** 59]
    number = 123456789
    while len(numbers) < 40:
        number = (number * 6364136223846793005 + 1442695040888963407) % 10 ** 60
        numbers.append(number)
    return numbers


def long_row(scale, step):
    """A row of 85 digits, the same each time; each seventh the greatest one."""
    bases = [base_at(scale, place) for place in range(85)]
    return tuple(
        base - 1 if (place + step) % 7 == 0 else (place * 7919 + step * 104729) % base
        for place, base in enumerate(bases)
    )


def is_row(told):
    return type(told) is tuple and all(type(digit) is int for digit in told)


class SameAgainTest(unittest.TestCase):
    def test_the_same_asked_again_is_answered_the_same(self):
        first = [answer(asked, handed) for asked, handed in ASKED]
        again = [answer(asked, handed) for asked, handed in reversed(ASKED)]
        self.assertEqual(first, again[::-1])

    def test_what_is_handed_in_stays_as_it_was(self):
        for asked, handed in ASKED:
            before = copy.deepcopy(handed)
            answer(asked, handed)
            self.assertEqual(handed, before)

    def test_what_was_told_stays_as_it_was(self):
        told = [answer(asked, handed) for asked, handed in ASKED]
        before = copy.deepcopy(told)
        for asked, handed in ASKED:
            answer(asked, handed)
        self.assertEqual(told, before)


    def test_what_is_told_is_the_askers_own(self):
        # Whatever the asker does with what was told, the same asked again is answered as before.
        first = [answer(asked, handed) for asked, handed in ASKED]
        before = copy.deepcopy(first)
        for told in first:
            for part in (told, told[-1] if type(told) is tuple and told else None):
                if type(part) in (list, dict):
                    part.clear()
        self.assertNotEqual(first, before)
        self.assertEqual([answer(asked, handed) for asked, handed in ASKED], before)

    def test_what_becomes_of_what_was_handed_in_does_not_matter(self):
        rows = closed_round((2, 3))
        told = round_shown((2, 3), rows)
        rows.reverse()
        rows.pop()
        self.assertEqual(told, (True, True))
        self.assertEqual(round_shown((2, 3), closed_round((2, 3))), (True, True))
        paper = judged_digits(3, (-1, 0, 1))[1]
        told = paper_shown(3, (-1, 0, 1), paper)
        paper.clear()
        self.assertIs(told, True)
        self.assertIs(paper_shown(3, (-1, 0, 1), paper), False)


class KindsTest(unittest.TestCase):
    def test_numbers_are_whole_numbers_and_no_truths(self):
        for told in (
            base_at(CLOCK, 1),
            worth_at(CLOCK, 0),
            worth_at(CLOCK, 2),
            number_of(CLOCK, ()),
            order_number(()),
            order_number((1, 0)),
            orders_apart((1, 0), (0, 1)),
            exchanged(CLOCK, DECIMAL, ())[1],
            exchanged(CLOCK, DECIMAL, (1, 0))[1],
            judged_digits(2, (0, 1))[1],
            judged_digits(2, (0, -1))[1],
            step_of((), ()),
            step_of((2,), (1,)),
            change_at((2, 2), 0)[0],
            change_at((2, 2), 0)[1],
            paid(CLOCK, 0)[1],
            paid(CLOCK, 1)[1],
            ways_many(CLOCK, 0),
            ways_many(((), ()), 1),
            least_scale(2)[1][0][0],
        ):
            self.assertIs(type(told), int)

    def test_rows_are_tuples_of_whole_numbers(self):
        self.assertTrue(is_row(digits_of(CLOCK, 3725)))
        self.assertTrue(is_row(digits_of(CLOCK, 0)))
        for told in (
            added(CLOCK, (50, 59), (20,)),
            added(CLOCK, (), ()),
            taken_off(CLOCK, (10, 0, 4), (20,)),
            taken_off(CLOCK, (10,), (10,)),
            multiplied(CLOCK, (50, 59), 2),
            multiplied(CLOCK, (), 2),
            divided(CLOCK, (50, 59), 2),
            divided(CLOCK, (), 2),
            fraction_digits(DECIMAL, (1, 6)),
            fraction_digits(DECIMAL, (0, 1)),
            fraction_digits(CLOCK, (1, 2)),
        ):
            self.assertIs(type(told), tuple)
            self.assertEqual(len(told), 2)
            self.assertTrue(is_row(told[0]) and is_row(told[1]))
        for told in (order_of(0, 0), order_of(1, 0), order_of(4, 7), next_order((0, 2, 1))):
            self.assertTrue(is_row(told))

    def test_an_exchange_is_a_pair_of_row_and_number(self):
        for told in (exchanged(CLOCK, DECIMAL, (50, 59)), exchanged(CLOCK, DECIMAL, ())):
            self.assertIs(type(told), tuple)
            self.assertEqual(len(told), 2)
            self.assertTrue(is_row(told[0]))

    def test_a_fraction_is_a_pair_of_whole_numbers(self):
        for told in (fraction_of(DECIMAL, (1,), (6,)), fraction_of(CLOCK, (), ()), fraction_of(DECIMAL, (), (9,))):
            self.assertTrue(is_row(told))
            self.assertEqual(len(told), 2)

    def test_other_rows_are_tuples_of_whole_numbers(self):
        for told in (
            row_at((), 0), row_at((2, 2), 3), change_at((2, 2), 1), paid(CLOCK, 0)[0], paid(CLOCK, 1)[0],
            way_at(CLOCK, 7, 0), way_at(((), ()), 0, 0), least_scale(1)[0], least_scale(77)[0], least_scale(77)[1][2][1],
            scale_with(())[0], scale_with((2, 6))[0], scale_with((2, 6))[1],
        ) + judged_digits(3, (-1, 0, 1, 2))[1:] + tuple(judged_digits(4, (-1, 0, 1, 2))[1].values()):
            self.assertTrue(is_row(told), told)
        for told in (
            judged_digits(2, (0, 1)), judged_digits(3, (-1, 0, 1)), judged_digits(3, (-1, 0, 1, 2)), least_scale(1),
            least_scale(1)[1], least_scale(77)[1], least_scale(77)[1][0], round_shown((2,), []), paid(CLOCK, 5),
            scale_with((2,)),
        ):
            self.assertIs(type(told), tuple)

    def test_a_list_or_a_dict_only_where_one_is_named(self):
        self.assertIs(type(judged_digits(3, (-1, 0, 1))[1]), dict)
        for bases in ((), (2,), (2, 3)):
            self.assertIs(type(closed_round(bases)), list)
            self.assertTrue(all(is_row(row) for row in closed_round(bases)))

    def test_the_other_lookers_tell_truths(self):
        for paper in ({}, {1: (1,), 0: (), -1: (-1,)}):
            self.assertIs(type(paper_shown(3, (1, 0, -1), paper)), bool)
        for bases, rows in (((), [()]), ((2,), []), ((3,), [(0,), (1,), (2,)]), ((2,), [(1,), (0,)])):
            self.assertEqual([type(truth) for truth in round_shown(bases, rows)], [bool, bool])

    def test_the_looker_tells_a_truth(self):
        self.assertIs(type(sum_shown(CLOCK, (1,), (1,), (2,), (0,))), bool)
        self.assertIs(type(sum_shown(CLOCK, (99,), (1,), (2,), (0,))), bool)


class GreatTest(unittest.TestCase):
    def test_numbers_of_60_figures_are_told_back(self):
        for scale in SCALES:
            for number in long_numbers():
                digits = digits_of(scale, number)
                self.assertEqual(number_of(scale, digits), number)
                self.assertNotEqual(digits[-1:], (0,))

    def test_sums_of_60_figures_are_what_the_numbers_are(self):
        numbers = long_numbers()
        for scale in SCALES:
            for one, other in zip(numbers, numbers[1:] + numbers[:1]):
                great = digits_of(scale, max(one, other))
                less = digits_of(scale, min(one, other))
                told = added(scale, great, less)
                self.assertEqual(told[0], digits_of(scale, one + other))
                self.assertTrue(sum_shown(scale, great, less, told[0], told[1]))
                self.assertEqual(taken_off(scale, great, less)[0], digits_of(scale, abs(one - other)))
                self.assertEqual(taken_off(scale, told[0], less)[0], great)

    def test_carries_and_what_is_lent_by_the_numbers(self):
        numbers = long_numbers()
        for scale in SCALES:
            one, other = numbers[7], numbers[8]
            rows = (digits_of(scale, one), digits_of(scale, other))
            carries = added(scale, *rows)[1]
            lent = taken_off(scale, digits_of(scale, one + other), rows[0])[1]
            self.assertEqual(len(carries), max(len(rows[0]), len(rows[1])))
            for place, carried in enumerate(carries):
                worth = worth_at(scale, place + 1)
                self.assertEqual(carried, (one % worth + other % worth) // worth)
                self.assertEqual(lent[place], int((one + other) % worth < one % worth))

    def test_rows_of_85_digits(self):
        for scale in SCALES:
            for step in range(8):
                one = long_row(scale, step)
                other = long_row(scale, step + 3)
                whole = number_of(scale, one) + number_of(scale, other)
                told = added(scale, one, other)
                self.assertEqual(len(told[1]), 85)
                self.assertEqual(told[0], digits_of(scale, whole))
                self.assertTrue(sum_shown(scale, one, other, told[0], told[1]))
                self.assertEqual(number_of(scale, taken_off(scale, told[0], other)[0]), number_of(scale, one))


if __name__ == "__main__":
    unittest.main()
