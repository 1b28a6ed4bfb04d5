"""What several tests ask: the bases of a scale written out, and refusals looked at closely."""

from mixedscales.errors import NoAsk, NoDigit, NoEnd, NoOrder, NoPlace, ScaleError, TooGreat, TooSmall

REFUSALS = (NoPlace, TooGreat, TooSmall, NoOrder, NoEnd, NoAsk, NoDigit)


def bases_of(scale, many):
    """The first bases, at most many, written out without asking the program."""
    head, ring = scale
    return (head + ring * (many if ring else 0))[:many]


def refused(test, kind, asked, *handed):
    """The refusal, looked at: of this class and of no other refusal's."""
    with test.assertRaises(kind) as caught:
        asked(*handed)
    refusal = caught.exception
    test.assertIsInstance(refusal, ScaleError)
    test.assertIsInstance(refusal, ValueError)
    test.assertEqual([one for one in REFUSALS if isinstance(refusal, one)], [kind])
    return refusal


def refused_digit(test, place, asked, *handed):
    """NoDigit with just this place."""
    refusal = refused(test, NoDigit, asked, *handed)
    test.assertIs(type(refusal.place), int)
    test.assertEqual(refusal.place, place)


def mixed_numbers(many, end):
    """Whole numbers from 0 on below end, the same each time."""
    numbers = []
    number = 123456789
    for _ in range(many):
        number = (number * 6364136223846793005 + 1442695040888963407) % 10 ** 90
        numbers.append(number % end)
    return numbers


def mixed_row(bases, step):
    """A row of digits of these bases, the same each time; greatest ones and noughts among them."""
    row = []
    for place, base in enumerate(bases):
        choice = (place * 5 + step) % 9
        row.append(base - 1 if choice == 0 else 0 if choice == 4 else (place * 7919 + step * 104729) % base)
    return tuple(row)
