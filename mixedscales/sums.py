"""Sums and lessenings of rows of digits, place by place, and a looker at sums."""

from mixedscales.errors import TooGreat, TooSmall
from mixedscales.scales import base_at, digit_at, first_wrong, has_place, refuse_wrong, without_noughts


def added(scale, one, other):
    """The sum of two rows: (digits, carries), or NoDigit, or TooGreat."""
    refuse_wrong(scale, one)
    refuse_wrong(scale, other)
    through = gone_through(scale, one, other, 1)
    digits = through[0]
    carries = through[1]
    if last_hands_on(carries):
        if not has_place(scale, len(carries)):
            raise TooGreat("the last carry has no place")
        digits.append(carries[-1])
    return (without_noughts(digits), tuple(carries))


def taken_off(scale, one, other):
    """What is left of one when other is taken off: (digits, what is lent at each place), or NoDigit, or TooSmall."""
    refuse_wrong(scale, one)
    refuse_wrong(scale, other)
    through = gone_through(scale, one, other, -1)
    lent = through[1]
    # Behind the longer row there is nothing that could lend.
    if last_hands_on(lent):
        raise TooSmall("the second row is more than the first")
    return (without_noughts(through[0]), tuple(lent))


def gone_through(scale, one, other, sign):
    """Go through the places of the longer row; sign is 1 to add, -1 to take off.

    Given back are two lists: the digits, and what each place hands on to the next one
    (carried when adding, lent when taking off), 0 or 1.
    """
    digits = []
    handed = []
    coming = 0
    for place in range(max(len(one), len(other))):
        base = base_at(scale, place)
        whole = digit_at(one, place) + sign * (digit_at(other, place) + coming)
        digits.append(whole % base)
        # The quotient is rounded down, so that it is 0 or -1 where something is taken off.
        coming = sign * (whole // base)
        handed.append(coming)
    return (digits, handed)


def last_hands_on(handed):
    """Whether the last place hands something on."""
    return len(handed) > 0 and handed[-1] != 0


def sum_shown(scale, one, other, digits, carries):
    """Whether these carries show that digits are the sum of the rows one and other."""
    if any([first_wrong(scale, row) is not None for row in (one, other, digits)]):
        return False
    many = max(len(one), len(other))
    if len(carries) != many:
        return False
    coming = 0
    for place in range(many):
        whole = digit_at(one, place) + digit_at(other, place) + coming
        if whole != digit_at(digits, place) + base_at(scale, place) * carries[place]:
            return False
        coming = carries[place]
    # The sum has nothing behind the places gone through but the last carry, where there is one.
    return without_noughts(digits[many:]) == without_noughts((coming,))
