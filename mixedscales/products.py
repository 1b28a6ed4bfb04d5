"""Rows of digits multiplied and divided by whole numbers, and told in another scale."""

from mixedscales.scales import base_at, digits_from, refuse_wrong, without_noughts


def multiplied(scale, digits, number):
    """The row times a number from 0 on: (digits, carries), or NoDigit, or TooGreat."""
    refuse_wrong(scale, digits)
    return times_and_more(scale, digits, number, 0)


def divided(scale, digits, number):
    """The row over a number from 1 on: (digits, what is left at each place), or NoDigit."""
    refuse_wrong(scale, digits)
    quotients = []
    rests = []
    rest = 0
    for place in range(len(digits) - 1, -1, -1):
        # One that is left at the next place is worth a whole base here.
        whole = rest * base_at(scale, place) + digits[place]
        rest = whole % number
        quotients.append(whole // number)
        rests.append(rest)
    quotients.reverse()
    rests.reverse()
    return (without_noughts(quotients), tuple(rests))


def exchanged(scale, other, digits):
    """The row of one scale told in another one: (digits, the places gone through), or NoDigit, or TooGreat."""
    refuse_wrong(scale, digits)
    told = ()
    many = 0
    for place in range(len(digits) - 1, -1, -1):
        many += max(1, len(told))
        told = times_and_more(other, told, base_at(scale, place), digits[place])[0]
    return (told, many)


def times_and_more(scale, digits, number, more):
    """The row times a number, and more put to place 0: (digits, carries), or TooGreat."""
    product = []
    carries = []
    coming = more
    for place, digit in enumerate(digits):
        base = base_at(scale, place)
        whole = digit * number + coming
        coming = whole // base
        product.append(whole % base)
        carries.append(coming)
    product.extend(digits_from(scale, len(digits), coming))
    return (without_noughts(product), tuple(carries))
