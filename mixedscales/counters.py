"""Counters: rounds through all rows of digits of some bases, each step of which changes one digit by one."""

from mixedscales.errors import NoDigit, NoEnd, TooGreat
from mixedscales.scales import first_wrong


def row_at(bases, step):
    """The row at which the counter stands at a step, or TooGreat."""
    refuse_no_step(bases, step)
    row = []
    gone = step
    for base in bases:
        digit = gone % base
        gone = gone // base
        row.append(turned(base, digit, gone))
    return tuple(row)


def step_of(bases, row):
    """The step at which the counter stands at a row, or NoDigit."""
    refuse_no_row(bases, row)
    step = 0
    for place in range(len(bases) - 1, -1, -1):
        base = bases[place]
        step = step * base + turned(base, row[place], step)
    return step


def change_at(bases, step):
    """The change from a step to the next one: (place, 1 or -1), None from the last one, or TooGreat."""
    refuse_no_step(bases, step)
    gone = step
    for place, base in enumerate(bases):
        digit = gone % base
        gone = gone // base
        # A place that is at the end of its way stays there and turns about; the next one has to go.
        if digit < base - 1:
            return (place, 1 if gone % 2 == 0 else -1)
    return None


def turned(base, digit, gone):
    """The digit as it stands when its place has gone its whole way so many times: each second way goes down."""
    return digit if gone % 2 == 0 else base - 1 - digit


def round_shown(bases, rows):
    """Whether the rows are a round through all rows of the bases, and whether it closes: (truth, truth)."""
    if not is_round(bases, rows):
        return (False, False)
    # One row is all there is of no bases: there is nowhere else to go.
    return (True, len(rows) == 1 or is_next(rows[-1], rows[0]))


def closed_round(bases):
    """A round of the bases that closes, as a list of rows, or NoEnd."""
    if len(bases) == 0:
        return [()]
    if bases == (2,):
        return [(0,), (1,)]
    evens = [place for place, base in enumerate(bases) if base % 2 == 0]
    if len(bases) == 1 or len(evens) == 0:
        raise NoEnd("no round of these bases closes")
    return round_along(bases, evens[0])


def round_along(bases, even):
    """A closed round of two bases or more, the one at the place even an even one.

    The counter's round of the other bases is a way from its first row to its last one. For each digit at the
    place even all of that way but its first row is gone, forth and back by turns. As there is an even number
    of turns, the last one ends beside the first row; by that the round goes back to where it began.
    """
    others = bases[:even] + bases[even + 1:]
    way = [row_at(others, step) for step in range(product_of(others))]
    rows = [with_digit(way[0], even, 0)]
    for digit in range(bases[even]):
        turn = [with_digit(row, even, digit) for row in way[1:]]
        if digit % 2 == 1:
            turn.reverse()
        rows.extend(turn)
    for digit in range(bases[even] - 1, 0, -1):
        rows.append(with_digit(way[0], even, digit))
    return rows


def with_digit(row, place, digit):
    """The row with a digit put in at a place."""
    return row[:place] + (digit,) + row[place:]


def is_round(bases, rows):
    """Whether the rows are all rows of the bases, each once, each a next one of the one ahead of it."""
    if len(rows) != product_of(bases):
        return False
    if any([first_amiss(bases, row) is not None for row in rows]) or len(set(rows)) != len(rows):
        return False
    return all([is_next(one, other) for one, other in zip(rows, rows[1:])])


def is_next(one, other):
    """Whether of two rows as long one digit is other by one."""
    return sum([abs(digit - further) for digit, further in zip(one, other)]) == 1


def product_of(bases):
    """How many rows there are."""
    product = 1
    for base in bases:
        product *= base
    return product


def refuse_no_step(bases, step):
    """Raise TooGreat where the counter's round has no such step."""
    if step < 0 or step >= product_of(bases):
        raise TooGreat("the round has no such step")


def refuse_no_row(bases, row):
    """Raise NoDigit where the counter can't stand at the row."""
    place = first_amiss(bases, row)
    if place is not None:
        raise NoDigit(place)


def first_amiss(bases, row):
    """The first place of the row that is wrong, lacks, or is too many, or None."""
    place = first_wrong((bases, ()), row)
    if place is None and len(row) < len(bases):
        return len(row)
    return place
