"""Scales, and the rows of digits that write numbers by them.

A scale is a pair (head, ring) of rows of bases. Places count from 0 on, the least one first.
"""

from mixedscales.errors import NoDigit, NoPlace, TooGreat


def has_place(scale, place):
    """Whether the scale has this place: where its ring is empty it ends with its head."""
    if place < 0:
        return False
    return len(scale[1]) > 0 or place < len(scale[0])


def refuse_no_place(scale, place):
    """Raise NoPlace where the scale has no such place."""
    if not has_place(scale, place):
        raise NoPlace("the scale has no such place")


def base_at(scale, place):
    """The base at a place, or NoPlace."""
    refuse_no_place(scale, place)
    head = scale[0]
    ring = scale[1]
    if place < len(head):
        return head[place]
    return ring[(place - len(head)) % len(ring)]


def worth_at(scale, place):
    """The product of the bases ahead of a place, or NoPlace."""
    refuse_no_place(scale, place)
    worth = 1
    for ahead in range(place):
        worth *= base_at(scale, ahead)
    return worth


def digits_of(scale, number):
    """The row of digits of a number from 0 on, the last digit not 0, or TooGreat."""
    return digits_from(scale, 0, number)


def digits_from(scale, start, number):
    """The row of digits that writes a number of worths of the place start, from that place on, or TooGreat."""
    digits = []
    left = number
    while left > 0:
        place = start + len(digits)
        if not has_place(scale, place):
            raise TooGreat("the scale ends before the number does")
        base = base_at(scale, place)
        digits.append(left % base)
        left = left // base
    return tuple(digits)


def number_of(scale, digits):
    """The number that a row of digits writes, or NoDigit."""
    refuse_wrong(scale, digits)
    number = 0
    worth = 1
    for place, digit in enumerate(digits):
        number += digit * worth
        worth *= base_at(scale, place)
    return number


def first_wrong(scale, digits):
    """The first place of the row that is wrong, or None."""
    for place, digit in enumerate(digits):
        # Not even a nought may stand at a place that is none, so its digit is not looked at.
        if not has_place(scale, place):
            return place
        if digit < 0 or digit >= base_at(scale, place):
            return place
    return None


def refuse_wrong(scale, digits):
    """Raise NoDigit where the row has a wrong place."""
    place = first_wrong(scale, digits)
    if place is not None:
        raise NoDigit(place)


def digit_at(digits, place):
    """The digit of the row at a place; behind its end every row goes on with noughts."""
    return digits[place] if place < len(digits) else 0


def without_noughts(digits):
    """The row as a tuple, the noughts behind taken away."""
    many = len(digits)
    while many > 0 and digits[many - 1] == 0:
        many -= 1
    return tuple(digits[:many])
