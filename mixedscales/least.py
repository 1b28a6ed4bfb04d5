"""Least scales: rows of bases of the least sum whose product reaches a number, and scales of told worths."""

from mixedscales.errors import NoPlace
from mixedscales.search import least_that


def least_scale(number):
    """The bases of the least sum whose product is no less than a number from 1 on: (bases, paper)."""
    paper = []
    product = 1
    while product < number:
        product *= 2
        paper.append(least_of_count(len(paper) + 1, number))
    if len(paper) == 0:
        return ((), ())
    # The first of several is the one with the fewest bases.
    return (min(paper, key=sum_of_pair)[1], tuple(paper))


def sum_of_pair(pair):
    """The sum of a paper's pair."""
    return pair[0]


def least_of_count(count, number):
    """The least sum of so many bases whose product is no less than the number: (sum, the first such bases)."""
    # With all bases but one 2, that one need be no more than the number and 2.
    total = least_that(2 * count, 2 * count + number, lambda some: greatest_product(count, some) >= number)
    return (total, first_bases(count, total, number))


def greatest_product(count, total):
    """The greatest product of so many numbers of this sum: that of those as even as can be."""
    product = 1
    for part in even_parts(count, total):
        product *= part
    return product


def even_parts(count, total):
    """So many numbers of this sum, as even as can be, rising."""
    greater = total % count
    return [total // count] * (count - greater) + [total // count + 1] * greater


def first_bases(count, total, number):
    """The first row, as tuples, of so many rising bases of this sum whose product is no less than the number."""
    bases = []
    low = 2
    product = 1
    left = total
    for others in range(count - 1, 0, -1):
        low = first_base(low, others, left, product, number)
        bases.append(low)
        product *= low
        left -= low
    bases.append(left)
    return tuple(bases)


def first_base(low, others, left, product, number):
    """The least base, from low on, that with so many others beside it, of the sum left, brings the product there."""
    # The nearer the base comes to the even part, the greater the product that the others can bring.
    return least_that(
        low, left // (others + 1),
        lambda base: product * base * greatest_product(others, left - base) >= number,
    )


def scale_with(numbers):
    """The scale that ends, with the fewest bases, that has all the numbers as worths or as its product, or NoPlace."""
    head = []
    worth = 1
    for number in sorted(numbers):
        if number % worth != 0:
            raise NoPlace("no scale has both of these worths")
        if number > worth:
            head.append(number // worth)
        worth = number
    return (tuple(head), ())
