"""Promises [14] and [15]: digits of whatever whole numbers, and the papers that show them."""

import copy
import itertools
import unittest

from asked import mixed_numbers
from mixedscales.others import judged_digits, paper_shown

EACH = (
    (3, (-1, 0, 1)),
    (3, (0, 1, -7)),
    (3, (0, -1, 7)),
    (3, (0, -1, 25)),
    (4, (-1, 0, 1, 2)),
    (4, (-2, -1, 0, 1)),
    (5, (-2, -1, 0, 1, 2)),
    (10, tuple(range(-1, 9))),
    (10, tuple(range(-8, 2))),
    (10, (0, 1, 2, 3, 4, 5, 6, 7, 8, -991)),
    (40, tuple(range(-20, 20))),
    (40, tuple(range(-1, 39))),
)
TWICE = (
    (2, (-1, 0, 1)),
    (3, (-1, 0, 1, 2)),
    (3, (-1, 0, 1, 999)),
    (3, (0, 1, 2, -1, -999)),
    (4, (-3, -2, -1, 0, 1, 2, 3)),
    (5, (-2, -1, 0, 1, 2, 7, 21)),
    (2, (-37, 0, 37, 1, -1)),
    (3, (-681, -448, -133, 0, 505, 994)),
)
LACKS = (
    (2, (0, 1), -1),
    (2, (0, -1), 1),
    (2, (0, 3), 1),
    (2, (0, 2), 1),
    (2, (-2, 0, 2), 1),
    (2, (0, 1, 2), -1),
    (3, (0, 1, 2), -1),
    (3, (0, -1, -2), 1),
    (3, (0, 1), -1),
    (3, (0, 1, -4), 2),
    (10, tuple(range(10)), -1),
    (10, tuple(range(-9, 1)), 1),
    (10, (0, 5), 1),
    (40, tuple(range(40)), -1),
    (40, tuple(range(-5, 6)), 6),
    (40, tuple(range(-5, 7)), -6),
    (40, tuple(range(-19, 20)), 20),
    (40, tuple(range(-19, 20)) + (-41, -42, 41, 42), 20),
    (10, tuple(range(15)), -1),
)


def value_of(base, row):
    return sum(digit * base ** place for place, digit in enumerate(row))


def stripped(row):
    many = len(row)
    while many and row[many - 1] == 0:
        many -= 1
    return row[:many]


def has_writing(base, digits, number, known):
    """Whether digits taken off one after another lead from the number to one that is known to have a writing."""
    seen = {number}
    left = [number]
    while left:
        at = left.pop()
        if at in known:
            return True
        for digit in digits:
            behind, rest = divmod(at - digit, base)
            if rest == 0 and behind not in seen:
                seen.add(behind)
                left.append(behind)
    return False


def least_lacking(base, digits, end):
    """The number within end without a writing that is least without its sign, or None."""
    known = {0}
    for size in range(1, end + 1):
        for number in (size, -size):
            if not has_writing(base, digits, number, known):
                return number
            known.add(number)
    return None


def shortest_twice(base, digits):
    """The least length of which two rows, noughts behind let by, write one number."""
    numbers = {0}
    many = 0
    while len(numbers) == len(digits) ** many:
        numbers = {digit + base * number for number in numbers for digit in digits}
        many += 1
    return many


def first_twice(base, digits, many):
    """Of all rows of at most so many digits the first pair that writes one number."""
    rows_of = {}
    for row in itertools.product(sorted(digits), repeat=many):
        rows_of.setdefault(value_of(base, row), set()).add(stripped(row))
    return min(tuple(sorted(rows)[:2]) for rows in rows_of.values() if len(rows) > 1)


def turned_about(digits):
    """The digits in some other orders."""
    rising = tuple(sorted(digits))
    middle = len(rising) // 2
    return (rising, rising[::-1], rising[middle:] + rising[:middle], rising[1::2] + rising[::2])


def digit_sets(farthest, most):
    """All rows of 2 to most digits, 0 among them, none farther from 0 than farthest."""
    others = [digit for digit in range(-farthest, farthest + 1) if digit != 0]
    for many in range(1, most):
        for chosen in itertools.combinations(others, many):
            yield (0,) + chosen


def mixed_digits(base, many, farthest, step):
    """Many digits in no order, most often one of each rest at the base, the same each time."""
    numbers = mixed_numbers(step + 1, 10 ** 80)
    number = numbers[step]
    digits = [0]
    while len(digits) < many:
        number = (number * 6364136223846793005 + 1442695040888963407) % 10 ** 80
        digit = (number // 10 ** 20) % (2 * farthest + 1) - farthest
        like = [other for other in digits if other % base == digit % base]
        if digit not in digits and not (like and len(digits) < base):
            digits.insert(number // 10 ** 50 % (len(digits) + 1), digit)
    return tuple(digits)


class JudgedTest(unittest.TestCase):
    def look_at(self, base, digits):
        """Judge the digits, and look at what is told by going through numbers and rows; tell its first word."""
        told = judged_digits(base, digits)
        self.assertIs(type(told), tuple)
        farthest = max(abs(digit) for digit in digits)
        lacking = least_lacking(base, digits, 2 * farthest + base)
        if lacking is not None:
            self.assertEqual(told, ("lacks", lacking), (base, digits))
        elif len(digits) == base:
            self.look_at_each(base, digits, told)
        else:
            self.look_at_twice(base, digits, told)
        return told[0]

    def look_at_each(self, base, digits, told):
        self.assertEqual((told[0], len(told)), ("each", 2), (base, digits))
        paper = told[1]
        self.assertIs(type(paper), dict)
        farthest = max(abs(digit) for digit in digits)
        self.assertEqual(sorted(paper), list(range(-farthest, farthest + 1)))
        for number, row in paper.items():
            self.assertIs(type(row), tuple)
            self.assertTrue(set(row) <= set(digits))
            self.assertEqual(row, stripped(row))
            self.assertEqual(value_of(base, row), number)
        self.assertIs(paper_shown(base, digits, paper), True)

    def look_at_twice(self, base, digits, told):
        self.assertEqual((told[0], len(told)), ("twice", 3), (base, digits))
        one, other = told[1:]
        for row in (one, other):
            self.assertIs(type(row), tuple)
            self.assertTrue(set(row) <= set(digits))
            self.assertEqual(row, stripped(row))
        self.assertLess(one, other)
        self.assertEqual(value_of(base, one), value_of(base, other))
        many = shortest_twice(base, digits)
        self.assertEqual(max(len(one), len(other)), many)
        if len(digits) ** many <= 9000:
            self.assertEqual((one, other), first_twice(base, digits, many))

    def test_known_ones(self):
        self.assertEqual(judged_digits(3, (-1, 0, 1)), ("each", {-1: (-1,), 0: (), 1: (1,)}))
        self.assertEqual(judged_digits(4, (2, -1, 0, 1)), (
            "each", {-2: (2, -1), -1: (-1,), 0: (), 1: (1,), 2: (2,)}
        ))
        self.assertEqual(judged_digits(2, (0, 1, -1)), ("twice", (-1,), (1, -1)))
        self.assertEqual(judged_digits(3, (2, 1, 0, -1)), ("twice", (-1,), (2, -1)))
        self.assertEqual(judged_digits(10, tuple(range(10))), ("lacks", -1))

    def test_the_digits_below_the_base_lack_the_numbers_below_0(self):
        for base in range(2, 41):
            self.assertEqual(judged_digits(base, tuple(range(base))), ("lacks", -1))
            self.assertEqual(judged_digits(base, tuple(range(0, -base, -1))), ("lacks", 1))

    def test_each_number_just_once(self):
        for base, digits in EACH:
            self.assertEqual(self.look_at(base, digits), "each", (base, digits))
        for base in range(3, 41):
            for ahead in range(1, base - 1):
                digits = tuple(range(-ahead, base - ahead))
                self.assertEqual(judged_digits(base, digits)[0], "each")

    def test_some_number_lacks(self):
        for base, digits, number in LACKS:
            self.assertEqual(judged_digits(base, digits), ("lacks", number), (base, digits))
            self.assertEqual(self.look_at(base, digits), "lacks")

    def test_some_number_twice(self):
        for base, digits in TWICE:
            self.assertEqual(self.look_at(base, digits), "twice", (base, digits))

    def test_a_row_that_ends_stands_ahead_of_one_that_goes_on(self):
        # Each noughts' row has a writing of its own here: 0 is written by (-2, 1) too.
        told = judged_digits(2, (-2, -1, 0, 1))
        self.assertEqual(told, ("twice", (), (-2, 1)))
        self.look_at_twice(2, (-2, -1, 0, 1), told)

    def test_all_few_digits(self):
        words = set()
        for base, farthest, most in ((2, 5, 4), (2, 3, 7), (3, 6, 5), (4, 4, 6), (5, 3, 7)):
            for digits in digit_sets(farthest, most):
                words.add(self.look_at(base, digits))
        self.assertEqual(words, {"each", "lacks", "twice"})

    def test_mixed_digits(self):
        words = []
        for base in (2, 3, 4, 5, 7, 10, 16, 25, 40):
            for step in range(16):
                many = (max(2, base - 1), base, base + 1, base + 3)[step % 4]
                farthest = 37 if base == 2 else (base + 2, 60, 250, 999)[step // 4]
                words.append(self.look_at(base, mixed_digits(base, many, farthest, step)))
        for word in ("each", "lacks", "twice"):
            self.assertGreater(words.count(word), 4, word)

    def test_fifty_digits(self):
        words = []
        for base in (2, 3, 10, 25, 39, 40):
            for step in range(3):
                words.append(self.look_at(base, mixed_digits(base, 50, 37 if base == 2 else 999, step)))
        self.assertIn("twice", words)
        self.assertEqual(self.look_at(40, tuple(range(-25, 25))), "twice")
        self.assertEqual(self.look_at(2, tuple(range(-37, 13))), "twice")
        self.assertEqual(self.look_at(40, tuple(range(-980, 1000, 40))), "lacks")

    def test_pairs_among_more_than_3000_rows(self):
        for base, digits in (
            (3, (-1, 0, 1, 999)),
            (20, (-841, -762, -630, -623, -564, -549, -447, -295, -88, -47, -37, 0, 14, 241, 375, 566, 568, 644, 749,
                  887, 902)),
        ):
            self.assertGreater(len(digits) ** shortest_twice(base, digits), 3000)
            told = judged_digits(base, digits)
            self.look_at_twice(base, digits, told)
            for turned in turned_about(digits):
                self.assertEqual(judged_digits(base, turned), told)

    def test_base_2_with_two_digits(self):
        # Twice as many, less the digit itself, leads from the digit's opposite to itself: there is always one lacking.
        for digit in list(range(1, 40)) + list(range(479, 500)):
            for other in (digit, -digit):
                self.assertEqual(self.look_at(2, (0, other)), "lacks")

    def test_in_whatever_order(self):
        asked = EACH + TWICE + tuple((base, digits) for base, digits, number in LACKS)
        asked += tuple((base, mixed_digits(base, base + 1, 99, 3)) for base in (3, 5, 12, 40))
        for base, digits in asked:
            told = judged_digits(base, digits)
            for turned in turned_about(digits):
                self.assertEqual(judged_digits(base, turned), told)

    def test_what_is_told_is_the_askers_own(self):
        digits = (-1, 0, 1)
        first = judged_digits(3, digits)
        first[1].clear()
        first[1][5] = ()
        self.assertEqual(judged_digits(3, digits), ("each", {-1: (-1,), 0: (), 1: (1,)}))


class PaperTest(unittest.TestCase):
    def test_the_told_paper(self):
        for base, digits in EACH:
            paper = judged_digits(base, digits)[1]
            for turned in turned_about(digits):
                self.assertIs(paper_shown(base, turned, paper), True)
            self.assertIs(paper_shown(base, digits, dict(reversed(list(paper.items())))), True)

    def test_a_number_left_out_or_one_too_many(self):
        for base, digits in EACH:
            paper = judged_digits(base, digits)[1]
            farthest = max(abs(digit) for digit in digits)
            for number in (-farthest, -1, 0, 1, farthest):
                less = dict(paper)
                del less[number]
                self.assertIs(paper_shown(base, digits, less), False)
                less[farthest + 1] = less[-farthest] if number != -farthest else less[farthest]
                self.assertIs(paper_shown(base, digits, less), False)
            more = dict(paper)
            more[10 ** 9] = (1,)
            self.assertIs(paper_shown(base, digits, more), False)
        paper = judged_digits(3, (-1, 0, 1))[1]
        self.assertIs(paper_shown(3, (-1, 0, 1), {**paper, 2: (-1, 1)}), False)
        self.assertIs(paper_shown(3, (-1, 0, 1), {**paper, 2: (-1, 1), -2: (1, -1)}), False)
        self.assertIs(paper_shown(3, (-1, 0, 1), {-1: (-1,), 0: (), 2: (-1, 1)}), False)
        self.assertIs(paper_shown(3, (-1, 0, 1), {}), False)

    def test_a_row_otherwise(self):
        for base, digits in EACH:
            paper = judged_digits(base, digits)[1]
            for number in (min(paper), -1, 0, 1, max(paper)):
                row = paper[number]
                for other in (
                    row + (0,), row + (0, 0, 0), row + (1,), row + (digits[-1] or digits[0],), (0,) + row,
                    row[1:] + (base + 1,), row[:-1] or (1,), paper[-number] or (1, 1), (0, 0, 0, 1) + row,
                ):
                    if other != row:
                        self.assertIs(paper_shown(base, digits, {**paper, number: other}), False, (number, other))

    def test_a_nought_behind(self):
        digits = (-1, 0, 1)
        self.assertIs(paper_shown(3, digits, {-1: (-1,), 0: (), 1: (1, 0)}), False)
        self.assertIs(paper_shown(3, digits, {-1: (-1,), 0: (0,), 1: (1,)}), False)

    def test_a_digit_that_is_none_though_the_number_is_right(self):
        digits = (-1, 0, 1)
        self.assertIs(paper_shown(3, digits, {-1: (2, -1), 0: (), 1: (1,)}), False)
        self.assertIs(paper_shown(3, digits, {-1: (-1,), 0: (3, -1), 1: (1,)}), False)
        self.assertIs(paper_shown(3, digits, {-1: (-1,), 0: (), 1: (-2, 1)}), False)

    def test_rows_exchanged(self):
        digits = (-1, 0, 1)
        self.assertIs(paper_shown(3, digits, {-1: (1,), 0: (), 1: (-1,)}), False)
        self.assertIs(paper_shown(3, digits, {-1: (-1,), 0: (1,), 1: ()}), False)

    def test_digits_not_as_many_as_the_base(self):
        # Each row is a right writing here.
        self.assertIs(paper_shown(2, (-1, 0, 1), {-1: (-1,), 0: (), 1: (1,)}), False)
        self.assertIs(paper_shown(2, (-1, 0, 1), {-1: (1, -1), 0: (), 1: (-1, 1)}), False)
        self.assertIs(paper_shown(4, (-1, 0, 1), {-1: (-1,), 0: (), 1: (1,)}), False)
        self.assertIs(paper_shown(40, (-1, 0, 1), {-1: (-1,), 0: (), 1: (1,)}), False)

    def test_digits_alike_by_their_rests(self):
        self.assertIs(paper_shown(4, (-1, 0, 1, 3), {
            -3: (1, -1), -2: (), -1: (-1,), 0: (), 1: (1,), 2: (), 3: (3,)
        }), False)
        self.assertIs(paper_shown(2, (0, 2), {-2: (), -1: (), 0: (), 1: (), 2: (2,)}), False)
        for base, digits in ((3, (-3, 0, 1)), (5, (-2, -1, 0, 1, 4)), (4, (-4, -1, 0, 1))):
            self.assertEqual(len(digits), base)
            self.look_at_nearest_paper(base, digits)

    def look_at_nearest_paper(self, base, digits):
        """Of a paper as right as can be, rows of at most three digits where there are such, it is told False."""
        farthest = max(abs(digit) for digit in digits)
        paper = {number: () for number in range(-farthest, farthest + 1)}
        for row in itertools.product(digits, repeat=3 if len(digits) < 9 else 2):
            if abs(value_of(base, row)) <= farthest:
                paper[value_of(base, row)] = stripped(row)
        self.assertIs(paper_shown(base, digits, paper), False)

    def test_no_paper_is_right_where_not_each_number_has_just_one_writing(self):
        for base, digits in [(base, digits) for base, digits, number in LACKS] + list(TWICE):
            self.look_at_nearest_paper(base, digits)

    def test_the_paper_stays_as_it_was(self):
        for base, digits in EACH:
            paper = judged_digits(base, digits)[1]
            paper[0] = ()
            before = copy.deepcopy(paper)
            self.assertIs(paper_shown(base, digits, paper), True)
            self.assertEqual(list(paper.items()), list(before.items()))
            paper[1] = (7, 0)
            before = copy.deepcopy(paper)
            self.assertIs(paper_shown(base, digits, paper), False)
            self.assertEqual(list(paper.items()), list(before.items()))


if __name__ == "__main__":
    unittest.main()
