"""Orders of things, tuples of 0 to n - 1, each once, and their numbers in the order of tuples."""

from mixedscales.errors import NoOrder, TooGreat
from mixedscales.scales import digit_at, digits_of, number_of


def order_number(order):
    """The number of an order, or NoOrder."""
    refuse_no_order(order)
    return number_of(scale_of_things(len(order)), order_digits(order))


def order_of(many, number):
    """The order of many things that has this number, or TooGreat."""
    if number < 0:
        raise TooGreat("no order has a number below 0")
    digits = digits_of(scale_of_things(many), number)
    left = list(range(many))
    order = []
    for place in range(many - 2, -1, -1):
        # The digit tells how many of the things that are left are less than the next one.
        order.append(left.pop(digit_at(digits, place)))
    return tuple(order + left)


def next_order(order):
    """The order behind this one, None behind the last one, or NoOrder."""
    refuse_no_order(order)
    turn = last_rise(order)
    if turn is None:
        return None
    # Behind the turn the things only fall, so that none of them makes an order behind this one;
    # the thing at the turn gives way to the next greater one, and the others begin anew, rising.
    greater = min([thing for thing in order[turn:] if thing > order[turn]])
    others = sorted([thing for thing in order[turn:] if thing != greater])
    return order[:turn] + (greater,) + tuple(others)


def orders_apart(one, other):
    """The number of other less that of one, or NoOrder."""
    if len(one) != len(other):
        raise NoOrder("the orders are of unlike lengths")
    return order_number(other) - order_number(one)


def scale_of_things(many):
    """The scale of the orders of many things."""
    return (tuple(range(2, many + 1)), ())


def refuse_no_order(order):
    """Raise NoOrder where the tuple is no order."""
    if sorted(order) != list(range(len(order))):
        raise NoOrder("the things are not those from 0 on, each once")


def order_digits(order):
    """The row of digits of an order's number: for each thing but the last one how many behind it are less."""
    digits = []
    for at in range(len(order) - 2, -1, -1):
        digits.append(len([thing for thing in order[at + 1:] if thing < order[at]]))
    return tuple(digits)


def last_rise(order):
    """The last place of an order behind which a greater thing stands, or None."""
    for at in range(len(order) - 2, -1, -1):
        if order[at] < order[at + 1]:
            return at
    return None
