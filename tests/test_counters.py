"""Promises [16] and [17]: counters, their steps and changes, and rounds that close."""

import copy
import itertools
import math
import unittest

from asked import mixed_numbers, mixed_row, refused, refused_digit
from mixedscales.counters import change_at, closed_round, round_shown, row_at, step_of
from mixedscales.errors import NoEnd, TooGreat

SMALL = (
    (), (2,), (3,), (7,), (2, 2), (2, 3), (3, 2), (3, 3), (4, 5), (2, 2, 2), (3, 2, 4), (5, 3, 3), (2, 3, 4, 5),
    (3, 3, 3, 3), (2,) * 8, (6, 1 + 1, 3, 2), (300,),
)
GREAT = (
    (10 ** 6,),
    (10 ** 6, 10 ** 6 - 1, 2, 3),
    tuple(range(2, 42)),
    (2,) * 80,
    (10 ** 6,) * 80,
    (999983,) * 40 + (2,) * 40,
    tuple(2 + place * 12497 for place in range(80)),
)
CLOSED = ((), (2,), (2, 2), (2, 3), (3, 2), (4, 3), (3, 4), (3, 3, 2), (3, 2, 3), (2, 3, 3), (2,) * 8, (7, 5, 6),
          (250, 2), (2, 250), (3, 166), (5, 5, 5, 4), (3, 3, 3, 3, 4), (6, 6, 6))
NOT_CLOSED = ((3,), (4,), (5,), (100,), (499,), (500,), (3, 3), (5, 3), (3, 5, 7), (3, 3, 3), (21, 23), (3, 3, 3, 3, 3),
              (10 ** 6,), (999999,) * 80)


def whole_round(bases):
    """The rows of the counter's round, one after another: place 0 goes up and down, each further step beside it."""
    if not bases:
        return [()]
    rows = []
    for turn, behind in enumerate(whole_round(bases[1:])):
        way = range(bases[0]) if turn % 2 == 0 else reversed(range(bases[0]))
        rows.extend((digit,) + behind for digit in way)
    return rows


def bases_within(end):
    """All rows of bases with a product of at most end."""
    yield ()
    for base in range(2, end + 1):
        for behind in bases_within(end // base):
            yield (base,) + behind


def one_by_one(one, other):
    """Whether one digit of two rows is other, by one."""
    apart = [abs(digit - further) for digit, further in zip(one, other, strict=True) if digit != further]
    return apart == [1]


class StepTest(unittest.TestCase):
    def test_ordinary(self):
        self.assertEqual([row_at((3, 2), step) for step in range(6)], [
            (0, 0), (1, 0), (2, 0), (2, 1), (1, 1), (0, 1)
        ])
        self.assertEqual(step_of((3, 2), (1, 1)), 4)
        self.assertEqual([change_at((3, 2), step) for step in range(6)], [
            (0, 1), (0, 1), (1, 1), (0, -1), (0, -1), None
        ])
        self.assertEqual([row_at((2, 2, 2), step) for step in range(8)], [
            (0, 0, 0), (1, 0, 0), (1, 1, 0), (0, 1, 0), (0, 1, 1), (1, 1, 1), (1, 0, 1), (0, 0, 1)
        ])

    def test_no_bases(self):
        self.assertEqual(row_at((), 0), ())
        self.assertEqual(step_of((), ()), 0)
        self.assertIsNone(change_at((), 0))
        for asked in (row_at, change_at):
            for step in (-1, 1, 10 ** 59):
                refused(self, TooGreat, asked, (), step)
        refused_digit(self, 0, step_of, (), (0,))
        refused_digit(self, 0, step_of, (), (5, 5))

    def test_whole_small_rounds(self):
        for bases in SMALL:
            rows = whole_round(bases)
            steps = range(len(rows))
            self.assertEqual(sorted(rows), list(itertools.product(*[range(base) for base in bases])))
            self.assertEqual([row_at(bases, step) for step in steps], rows)
            self.assertEqual([step_of(bases, row) for row in rows], list(steps))

    def test_all_few_bases(self):
        for bases in bases_within(40):
            rows = whole_round(bases)
            self.assertEqual([row_at(bases, step) for step in range(len(rows))], rows)
            self.assertEqual([step_of(bases, row) for row in rows], list(range(len(rows))))

    def test_changes_of_small_rounds(self):
        for bases in SMALL:
            rows = whole_round(bases)
            for step in range(len(rows) - 1):
                place, by = change_at(bases, step)
                row = list(rows[step])
                row[place] += by
                self.assertEqual(tuple(row), rows[step + 1])
                self.assertIn(by, (1, -1))
            self.assertIsNone(change_at(bases, len(rows) - 1))

    def great_steps(self, bases):
        """The first and the last steps, those near which a place turns, and some between."""
        many = math.prod(bases)
        steps = {0, 1, 2, many - 1, many - 2, many // 2, many // 2 - 1, many // 2 + 1}
        worth = 1
        for base in bases:
            worth *= base
            for near in (-2, -1, 0, 1):
                steps.update((worth + near, 2 * worth + near, 3 * worth + near, many - worth + near))
        steps.update(mixed_numbers(20, min(many, 10 ** 60)))
        return sorted(step for step in steps if 0 <= step < many)

    def test_great_rounds(self):
        for bases in GREAT:
            for step in self.great_steps(bases):
                row = row_at(bases, step)
                self.assertEqual(len(row), len(bases))
                self.assertTrue(all(0 <= digit < base for digit, base in zip(row, bases)))
                self.assertEqual(step_of(bases, row), step)
                change = change_at(bases, step)
                if step == math.prod(bases) - 1:
                    self.assertIsNone(change)
                    continue
                further = list(row)
                further[change[0]] += change[1]
                self.assertEqual(row_at(bases, step + 1), tuple(further))
                # The place that changes is the first one that has not come to the end of its way.
                worth = math.prod(bases[:change[0]])
                self.assertEqual((step + 1) % worth, 0)
                self.assertNotEqual((step + 1) % (worth * bases[change[0]]), 0)

    def test_the_first_and_the_last_row(self):
        for bases in SMALL + GREAT:
            self.assertEqual(row_at(bases, 0), (0,) * len(bases))
            self.assertEqual(step_of(bases, (0,) * len(bases)), 0)
            last = row_at(bases, math.prod(bases) - 1)
            self.assertEqual(last[-1:], tuple(base - 1 for base in bases[-1:]))
            self.assertEqual(step_of(bases, last), math.prod(bases) - 1)

    def test_rows_are_told_back(self):
        for bases in GREAT:
            for step in range(9):
                row = mixed_row(bases, step)
                self.assertEqual(row_at(bases, step_of(bases, row)), row)

    def test_no_such_step(self):
        for bases in SMALL + GREAT:
            many = math.prod(bases)
            for step in (-1, -2, -many, -10 ** 59, many, many + 1, 2 * many, many * 10 ** 20):
                refused(self, TooGreat, row_at, bases, step)
                refused(self, TooGreat, change_at, bases, step)

    def test_no_such_row(self):
        bases = (3, 2, 4)
        for place, row in (
            (0, ()), (1, (0,)), (2, (0, 1)), (2, (2, 1)),
            (0, (3, 0, 0)), (0, (-1, 0, 0)), (1, (0, 2, 0)), (1, (0, -1, 9)), (2, (0, 0, 4)), (2, (0, 1, -1)),
            (0, (3, 2, 4)), (1, (2, 2, 4)), (0, (3,)), (1, (2, 2)), (1, (0, -5)),
            (3, (0, 0, 0, 0)), (3, (2, 1, 3, 9)), (3, (2, 1, 3, -1, 0)), (2, (2, 1, 4, 0)), (0, (-1, 0, 0, 0, 0)),
        ):
            refused_digit(self, place, step_of, bases, row)

    def test_no_such_row_of_many_bases(self):
        for bases in GREAT:
            row = mixed_row(bases, 4)
            for place in range(len(bases)):
                for digit in (-1, bases[place], 10 ** 9):
                    refused_digit(self, place, step_of, bases, row[:place] + (digit,) + row[place + 1:])
                refused_digit(self, place, step_of, bases, row[:place])
            refused_digit(self, len(bases), step_of, bases, row + (0,))
            refused_digit(self, len(bases), step_of, bases, row + (0, 1))


class RoundShownTest(unittest.TestCase):
    def looked_at(self, bases, rows):
        """What is told of the rows, which stay as they were."""
        before = copy.deepcopy(rows)
        told = round_shown(bases, rows)
        self.assertEqual(rows, before)
        self.assertIs(type(told), tuple)
        self.assertEqual([type(truth) for truth in told], [bool, bool])
        return told

    def test_the_counters_own_round(self):
        for bases in SMALL:
            rows = whole_round(bases)
            closes = len(rows) == 1 or one_by_one(rows[-1], rows[0])
            self.assertEqual(self.looked_at(bases, rows), (True, closes), bases)
        self.assertEqual(self.looked_at((3, 2), whole_round((3, 2))), (True, True))
        self.assertEqual(self.looked_at((2, 3), whole_round((2, 3))), (True, False))
        self.assertEqual(self.looked_at((2,), [(0,), (1,)]), (True, True))
        self.assertEqual(self.looked_at((3,), [(0,), (1,), (2,)]), (True, False))

    def test_no_bases(self):
        self.assertEqual(self.looked_at((), [()]), (True, True))
        for rows in ([], [(), ()], [(0,)], [(), (0,)]):
            self.assertEqual(self.looked_at((), rows), (False, False))

    def test_turned_about(self):
        for bases in SMALL:
            rows = whole_round(bases)
            self.assertEqual(self.looked_at(bases, rows[::-1]), round_shown(bases, rows))

    def test_begun_elsewhere(self):
        for bases in SMALL:
            rows = whole_round(bases)
            closes = round_shown(bases, rows)[1]
            for first in (1, len(rows) // 2, len(rows) - 1):
                turned = rows[first:] + rows[:first]
                if turned != rows:
                    self.assertEqual(self.looked_at(bases, turned), (closes, closes))

    def test_other_ways_through_all_rows(self):
        self.assertEqual(self.looked_at((3, 2), [(0, 0), (0, 1), (1, 1), (1, 0), (2, 0), (2, 1)]), (True, False))
        self.assertEqual(self.looked_at((3, 3), [
            (1, 1), (1, 0), (0, 0), (0, 1), (0, 2), (1, 2), (2, 2), (2, 1), (2, 0)
        ]), (True, False))
        self.assertEqual(self.looked_at((2, 2), [(1, 1), (0, 1), (0, 0), (1, 0)]), (True, True))

    def test_a_row_left_out_or_twice(self):
        for bases in SMALL:
            rows = whole_round(bases)
            for at in {0, len(rows) // 2, len(rows) - 1}:
                for wrong in (rows[:at] + rows[at + 1:], rows[:at] + rows[at:at + 1] + rows[at:]):
                    self.assertEqual(self.looked_at(bases, wrong), (False, False))
                wrong = list(rows)
                wrong[at] = rows[at - 1]
                if wrong != rows:
                    self.assertEqual(self.looked_at(bases, wrong), (False, False))

    def test_a_row_twice_with_each_step_right(self):
        # As many rows as there are, each next one right, but one row twice and one not at all.
        self.assertEqual(self.looked_at((2, 2), [(0, 0), (1, 0), (0, 0), (0, 1)]), (False, False))
        self.assertEqual(self.looked_at((2, 2), [(0, 0), (1, 0), (0, 0), (1, 0)]), (False, False))
        self.assertEqual(self.looked_at((3,), [(0,), (1,), (0,)]), (False, False))

    def test_a_round_and_more(self):
        for bases in ((2, 2), (3, 2), (2,)):
            rows = whole_round(bases)
            self.assertEqual(self.looked_at(bases, rows + rows[:1]), (False, False))
            self.assertEqual(self.looked_at(bases, rows + rows), (False, False))

    def test_rows_of_other_digits(self):
        self.assertEqual(self.looked_at((3, 2), whole_round((2, 3))), (False, False))
        self.assertEqual(self.looked_at((2, 2), [(0, 0), (1, 0), (2, 0), (3, 0)]), (False, False))
        self.assertEqual(self.looked_at((2,), [(1,), (2,)]), (False, False))
        self.assertEqual(self.looked_at((2,), [(0,), (-1,)]), (False, False))
        self.assertEqual(self.looked_at((2, 2), [(0, 0), (0, 1), (0, 2), (1, 2)]), (False, False))
        for bases in SMALL[1:]:
            rows = whole_round(bases)
            for wrong in (-1, bases[0]):
                changed = rows[:-1] + [(wrong,) + rows[-1][1:]]
                self.assertEqual(self.looked_at(bases, changed), (False, False))

    def test_rows_of_another_length(self):
        for bases in SMALL[1:]:
            rows = whole_round(bases)
            for at in (0, len(rows) - 1):
                for wrong in (rows[at] + (0,), rows[at][:-1], ()):
                    changed = list(rows)
                    changed[at] = wrong
                    self.assertEqual(self.looked_at(bases, changed), (False, False))
            self.assertEqual(self.looked_at(bases, [row + (0,) for row in rows]), (False, False))
            self.assertEqual(self.looked_at(bases, [row[:-1] for row in rows]), (False, False))

    def test_rows_exchanged(self):
        for bases in SMALL:
            rows = whole_round(bases)
            for one, other in ((0, 1), (1, 2), (len(rows) - 2, len(rows) - 1)):
                if len(rows) > 4 and one != other:
                    changed = list(rows)
                    changed[one], changed[other] = rows[other], rows[one]
                    self.assertEqual(self.looked_at(bases, changed), (False, False))

    def test_two_digits_other_or_one_by_two(self):
        self.assertEqual(self.looked_at((2, 2), [(0, 0), (1, 1), (1, 0), (0, 1)]), (False, False))
        self.assertEqual(self.looked_at((3,), [(0,), (2,), (1,)]), (False, False))
        self.assertEqual(self.looked_at((3, 2), sorted(whole_round((3, 2)))), (False, False))
        # Two digits other between the last row and the first: a round that does not close.
        self.assertEqual(self.looked_at((2, 2, 2), [
            (0, 0, 0), (1, 0, 0), (1, 1, 0), (0, 1, 0), (0, 1, 1), (0, 0, 1), (1, 0, 1), (1, 1, 1)
        ]), (True, False))

    def test_the_empty_list(self):
        for bases in SMALL + GREAT:
            self.assertEqual(self.looked_at(bases, []), (False, False))

    def test_few_rows_of_great_bases(self):
        for bases in GREAT:
            rows = [row_at(bases, step) for step in range(5)]
            self.assertEqual(self.looked_at(bases, rows), (False, False))


class ClosedRoundTest(unittest.TestCase):
    def look_at(self, bases):
        """A closed round that is there, looked at by its rows and by the looker."""
        rows = closed_round(bases)
        self.assertIs(type(rows), list)
        self.assertTrue(all(type(row) is tuple for row in rows))
        self.assertEqual(sorted(rows), list(itertools.product(*[range(base) for base in bases])))
        if len(rows) > 1:
            for one, other in zip(rows, rows[1:] + rows[:1]):
                self.assertTrue(one_by_one(one, other), (bases, one, other))
        self.assertEqual(round_shown(bases, rows), (True, True))
        self.assertEqual(closed_round(bases), rows)

    def test_none_and_one_base_2(self):
        self.assertEqual(closed_round(()), [()])
        self.assertEqual(sorted(closed_round((2,))), [(0,), (1,)])

    def test_there_is_one(self):
        for bases in CLOSED:
            self.look_at(bases)

    def test_there_is_none(self):
        for bases in NOT_CLOSED:
            refused(self, NoEnd, closed_round, bases)

    def test_all_bases_of_few_rows(self):
        for bases in bases_within(120):
            if len(bases) > 1 and math.prod(bases) % 2 == 0 or bases in ((), (2,)):
                self.look_at(bases)
            else:
                refused(self, NoEnd, closed_round, bases)

    def test_of_500_rows(self):
        for bases in bases_within(500):
            if math.prod(bases) in (486, 499, 500):
                if len(bases) > 1:
                    self.look_at(bases)
                else:
                    refused(self, NoEnd, closed_round, bases)

    def test_what_is_told_is_the_askers_own(self):
        for bases in ((), (2,), (2, 3)):
            first = closed_round(bases)
            before = list(first)
            first.append((9, 9))
            first[0] = (7,)
            self.assertEqual(closed_round(bases), before)


if __name__ == "__main__":
    unittest.main()
