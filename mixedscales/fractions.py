"""Fractions from 0 to 1, written behind the point: rows of digits that end or go round.

The digit at place i is worth one over the product of the bases of the places 0 to i.
"""

from mixedscales.errors import NoEnd
from mixedscales.scales import base_at, has_place, refuse_wrong


def fraction_digits(scale, fraction):
    """The fraction's digits and the row that goes round behind them: (digits, ring), or NoEnd."""
    rest = fraction[0]
    below = fraction[1]
    digits = []
    seen = {}
    while rest > 0:
        place = len(digits)
        if not has_place(scale, place):
            raise NoEnd("the fraction has no end in this scale")
        if place >= len(scale[0]):
            # Places behind head that lie some goings round apart have the same bases from there on,
            # so that the same rest goes on as it went on before.
            turn = (place % len(scale[1]), rest)
            if turn in seen:
                first = seen[turn]
                return (tuple(digits[:first]), tuple(digits[first:]))
            seen[turn] = place
        whole = rest * base_at(scale, place)
        digits.append(whole // below)
        rest = whole % below
    return (tuple(digits), ())


def fraction_of(scale, digits, ring):
    """The fraction that digits write, and ring that goes round behind them, or NoEnd, or NoDigit."""
    refuse_no_round(scale, digits, ring)
    refuse_wrong(scale, digits + ring)
    ahead = behind_point(scale, 0, digits)
    above = ahead[0]
    below = ahead[1]
    if len(ring) > 0:
        # The ring times the product of its bases is its own number and the ring once more, behind it:
        # so it is worth that number over the product less 1.
        behind = behind_point(scale, len(digits), ring)
        above = above * (behind[1] - 1) + behind[0]
        below = below * (behind[1] - 1)
    divisor = common_divisor(above, below)
    return (above // divisor, below // divisor)


def refuse_no_round(scale, digits, ring):
    """Raise NoEnd where a ring is there that can't go round behind these digits."""
    if len(ring) == 0:
        return
    if len(scale[1]) == 0:
        raise NoEnd("the scale ends, nothing goes round in it")
    if len(digits) < len(scale[0]):
        raise NoEnd("the ring begins before the scale's head ends")
    if len(ring) % len(scale[1]) != 0:
        raise NoEnd("the ring is not as long as some goings round of the scale's ring")


def behind_point(scale, start, digits):
    """The digits from the place start on, as the parts of a fraction: (their number, the product of their bases)."""
    number = 0
    product = 1
    for place, digit in enumerate(digits, start=start):
        base = base_at(scale, place)
        number = number * base + digit
        product *= base
    return (number, product)


def common_divisor(one, other):
    """The greatest common divisor of two numbers from 0 on."""
    great = one
    less = other
    while less > 0:
        rest = great % less
        great = less
        less = rest
    return great
