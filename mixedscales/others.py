"""Digits of whatever whole numbers at one base: whether they write every whole number just once.

Beyond a certain distance from 0 every digit that a number may begin with leads to a number nearer to 0.
So what holds of the numbers within that distance, and of all rests at the base, holds of every number.
"""

from mixedscales.scales import digit_at


def judged_digits(base, digits):
    """What the digits write: ("each", paper), ("lacks", number) or ("twice", one, other)."""
    # In one order, so that nothing hangs on the order in which they were handed in.
    chosen = tuple(sorted(digits))
    lacking = first_lacking(base, chosen)
    if lacking is not None:
        return ("lacks", lacking)
    # Nothing is lacking, so each rest has a digit: as many digits as the base are one for each rest,
    # and any number has but one digit to begin with. Of more, two are alike by their rests.
    if len(chosen) == base:
        return ("each", written_paper(base, chosen))
    pair = first_pair(base, chosen)
    return ("twice", pair[0], pair[1])


def paper_shown(base, digits, paper):
    """Whether the paper shows that every whole number has just one writing in these digits."""
    if len(digits) != base or len(set([digit % base for digit in digits])) != base:
        return False
    farthest = farthest_of(digits)
    if len(paper) != 2 * farthest + 1:
        return False
    return all([is_writing(base, digits, paper.get(number), number) for number in range(-farthest, farthest + 1)])


def is_writing(base, digits, row, number):
    """Whether there is a row, of these digits alone and without noughts behind, that writes the number."""
    if row is None or row[-1:] == (0,):
        return False
    if any([digit not in digits for digit in row]):
        return False
    written = 0
    for digit in reversed(row):
        written = written * base + digit
    return written == number


def farthest_of(digits):
    """The greatest digit without its sign."""
    return max([abs(digit) for digit in digits])


def reach_of(base, digits):
    """The distance from 0 beyond which every digit leads nearer to 0."""
    return farthest_of(digits) // (base - 1)


def first_lacking(base, digits):
    """The number without a writing that is least without its sign, the one above 0 first, or None."""
    # A number farther away lacks a writing only where nearer ones do, or its rest has no digit, as then
    # has that of a number no farther away than the base.
    reach = max(base, reach_of(base, digits))
    lengths = row_lengths(base, digits, reach, ())
    for size in range(1, reach + 1):
        for number in (size, -size):
            if number not in lengths:
                return number
    return None


def row_lengths(base, digits, reach, wanted):
    """How long the shortest row of each number within reach is, but of no longer ones than the first of wanted."""
    lengths = {0: 0}
    last = [0]
    many = 0
    while len(last) > 0 and not any([number in lengths for number in wanted]):
        many += 1
        fresh = []
        for behind in last:
            for digit in digits:
                number = digit + base * behind
                if abs(number) <= reach and number not in lengths:
                    lengths[number] = many
                    fresh.append(number)
        last = fresh
    return lengths


def written_paper(base, digits):
    """For each number no farther from 0 than the farthest digit the row that writes it; one digit for each rest."""
    by_rest = {}
    for digit in digits:
        by_rest[digit % base] = digit
    farthest = farthest_of(digits)
    paper = {}
    for number in range(-farthest, farthest + 1):
        paper[number] = only_row(base, by_rest, number)
    return paper


def only_row(base, by_rest, number):
    """The row of a number that has one, where each rest has one digit."""
    row = []
    left = number
    while left != 0:
        digit = by_rest[left % base]
        row.append(digit)
        left = (left - digit) // base
    return tuple(row)


def first_pair(base, digits):
    """Two unlike rows of one number, the longer one as short as can be, of several the first pair: (one, other).

    Such rows, gone along together, carry from place to place what the one is ahead of the other.
    As they are as short as can be, they are unlike at place 0, and never again carry nothing until their end.
    """
    many = shortest_pair(base, digits)
    one = first_beside(base, digits, [digits] * many)
    other = first_beside(base, digits, [(digit_at(one, place),) for place in range(many)])
    return (one, other)


def shortest_pair(base, digits):
    """How many places two unlike rows of one number need."""
    apart = differences(digits, digits)
    carried = [step // base for step in apart if step != 0 and step % base == 0]
    # What is carried out of place 0 is to be made up behind it, by differences of digits.
    lengths = row_lengths(base, apart, reach_of(base, apart), carried)
    return 1 + min([lengths[carry] for carry in carried if carry in lengths])


def differences(ones, others):
    """What a digit of others may be more than one of ones, rising."""
    apart = {}
    for one in ones:
        for other in others:
            apart[other - one] = True
    return sorted(apart)


def first_beside(base, digits, beside):
    """The first row, as tuples, that writes what an unlike row of beside, for each place its digits, writes too."""
    reach = reach_of(base, differences(digits, digits))
    going_on = ways_back(base, digits, beside, reach)
    ended = ways_back(base, (0,), beside, reach)
    row = []
    carries = [0]
    for place, others in enumerate(beside):
        behind = len(beside) - place - 1
        # A row that ends here stands ahead of all that go on.
        if len(carried_on(base, carries, 0, others, ended[behind])) > 0:
            break
        digit = first_digit(base, carries, digits, others, going_on[behind])
        carries = carried_on(base, carries, digit, others, going_on[behind])
        row.append(digit)
    return tuple(row)


def ways_back(base, digits, beside, reach):
    """For each count of last places, from 0 on, the carries that rows of digits and of beside make up in them."""
    ways = [{0: True}]
    for others in reversed(beside[1:]):
        apart = differences(digits, others)
        made_up = {}
        for carry in ways[-1]:
            for step in apart:
                before = base * carry + step
                if abs(before) <= reach:
                    made_up[before] = True
        ways.append(made_up)
    return ways


def first_digit(base, carries, digits, others, ways):
    """The first digit with which a row goes on, of digits in order, or None."""
    for digit in digits:
        if len(carried_on(base, carries, digit, others, ways)) > 0:
            return digit
    return None


def carried_on(base, carries, digit, others, ways):
    """What may be carried out of a place where the row has this digit, as far as there are ways on from it."""
    onward = {}
    for carry in carries:
        for other in others:
            whole = carry + digit - other
            # Like digits where nothing is carried in would leave the rows alike so far.
            unlike = carry != 0 or digit != other
            if unlike and whole % base == 0 and whole // base in ways:
                onward[whole // base] = True
    return list(onward)
