"""Pieces of money, worth the places' worths of a scale that ends and the product of all its bases.

With the pieces up to one of them a sum is paid in a number of ways that, as the sum grows by whole such pieces,
goes like the values of a polynomial, of one degree more for each piece behind the least one. Such a polynomial
is kept as a table: its values at 0, 1 and so on, one more of them than its degree.
"""

from mixedscales.errors import TooGreat
from mixedscales.search import least_that


def paid(scale, number):
    """The paying of a sum with fewest pieces: (how many of each, the least first, how many in all)."""
    row = []
    left = number
    for base in scale[0]:
        row.append(left % base)
        left = left // base
    row.append(left)
    return (tuple(row), sum(row))


def ways_many(scale, number):
    """In how many ways a sum is paid."""
    return value_at(way_tables(scale, number)[-1], number // worths_of(scale)[-1])


def way_at(scale, number, place):
    """The way of paying a sum that has this number, or TooGreat."""
    if place < 0 or place >= ways_many(scale, number):
        raise TooGreat("there is no such way")
    tables = way_tables(scale, number)
    worths = worths_of(scale)
    row = []
    left = number
    ahead = place
    for piece in range(len(worths) - 1, 0, -1):
        table = tables[piece]
        most = left // worths[piece]
        fewer = fewer_than_most(table, most, ahead)
        ahead -= value_at(table, most) - value_at(table, fewer)
        left -= (most - fewer) * worths[piece]
        row.append(most - fewer)
    # Only one way is left: the rest in the least pieces.
    row.append(left)
    row.reverse()
    return tuple(row)


def fewer_than_most(table, most, ahead):
    """How many fewer than most of a piece are in the way that has so many ways ahead of it.

    The ways with at least some count of the piece are the ways of what that count leaves of the sum; all other
    ways have less of it, and lie ahead.
    """
    every = value_at(table, most)
    return least_that(0, most, lambda fewer: every - value_at(table, fewer) <= ahead)


def worths_of(scale):
    """What each piece is worth, the least first."""
    worths = [1]
    for base in scale[0]:
        worths.append(worths[-1] * base)
    return worths


def way_tables(scale, number):
    """For each piece the table of the ways to pay, with it and all less ones, so many of it and the number's rest."""
    tables = [[1]]
    left = number
    for base in scale[0]:
        tables.append(next_table(tables[-1], left % base, base))
        left = left // base
    return tables


def next_table(table, digit, base):
    """The table of the next piece, worth base of those that the table is of; digit of these are left over."""
    sums = []
    whole = 0
    for pieces in range(len(table) + 1):
        whole += value_at(table, digit + pieces * base)
        sums.append(whole)
    return sums


def value_at(table, at):
    """The value at a number from 0 on of the polynomial that has the table's values at 0, 1 and so on."""
    value = 0
    choices = 1
    steps = table
    # Newton's way: the first of the k-th differences, as many times as k things are chosen of so many.
    for many in range(len(table)):
        value += steps[0] * choices
        choices = choices * (at - many) // (many + 1)
        steps = [after - before for before, after in zip(steps, steps[1:])]
    return value
