"""A search by halves, for numbers too great to be gone through."""


def least_that(low, high, holds):
    """The least number from low to high of which it holds; it holds of high, and of all above one that it holds of."""
    least = low
    known = high
    while least < known:
        middle = (least + known) // 2
        if holds(middle):
            known = middle
        else:
            least = middle + 1
    return known
