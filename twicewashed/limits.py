"""Limits, and what is so at all rows of shares at which they hold.

With a number x that is at least 0 for each share, which is 1 / e ** x, a limit says that a sum of multiples of these
numbers is at least a constant. So the greatest quotient of two lengths is a linear program. It has at most four
unknowns: all corners can be tried, and only these need exact roots.
"""

from itertools import combinations
from math import gcd

from twicewashed.lengths import divided
from twicewashed.shares import compared, raised

# The place of the limit of share 0. The places before it are the slots of a book, the ones behind it the other shares.
SHARES_PLACE = 6


class Limit:
    """That top times these powers of the shares is at most bottom. Its attributes never change."""

    def __init__(self, place, powers, top, bottom):
        self.place = place
        self.powers = powers
        self.top = top
        self.bottom = bottom


def limits_of(entries, shares):
    """The limits of so many shares and of these entries, one for each slot: a finding, or None."""
    # The shares stand first, so that corners at which most shares are 1 are found before other ones.
    limits = [Limit(SHARES_PLACE + share, unit, 1, 1) for share, unit in enumerate(units(shares))]
    for slot, entry in enumerate(entries):
        if entry is not None:
            left, right = entry
            limits.append(Limit(slot, divided(left, right), left.count, right.count))
    return limits


def settled(limits, left, right, *, factors=(1, 1), strict=False):
    """Whether m times left is at most (if strict: less than) n times right wherever the limits hold.

    If it is: (combination, None), where the combination of point 12 of DOC.md shows it. If not: (None, row), where
    row is a row of shares at which the limits hold and this does not. The factors are m and n.
    """
    m, n = factors
    return _decided(limits, divided(left, right), m * left.count, n * right.count, strict)


def slack_row(limits, limit):
    """A row of shares at which the limits hold and this one of them without equality; None if there is no such row."""
    opposite = tuple([-power for power in limit.powers])
    _, row = _decided(limits, opposite, limit.bottom, limit.top, False)
    return row


def greatest(limits, powers):
    """Where the product of these powers of the shares is greatest, if the limits hold; None if it has no bound.

    Returns (times, numbers, row): the row of shares, and a dict with a positive number for the places of some limits
    that hold with equality there. The sum of these numbers times the powers of the limits is times the given powers.
    """
    for chosen in combinations(limits, len(powers)):
        found = inverse([limit.powers for limit in chosen])
        if found is not None:
            weights = products(powers, found[1])
            # This costs less than the row itself, and most choices of limits end here.
            if all([weight >= 0 for weight in weights]):
                row = _row_of_equality(chosen, found)
                if fits(limits, row):
                    times, *numbers = reduced([found[0], *weights])
                    return times, {limit.place: number for limit, number in zip(chosen, numbers) if number > 0}, row
    return None


def growing_ray(limits, powers):
    """An extreme ray (point 15 of DOC.md) along which the product of these powers grows beyond every bound.

    None if there is no such ray.
    """
    # An extreme ray has the sum 0 with limits that are one fewer than the shares.
    for chosen in combinations(limits, len(powers[1:])):
        ray = _common_line([limit.powers for limit in chosen], len(powers))
        if ray is not None and product_sum(ray, powers) < 0:
            if all([product_sum(ray, limit.powers) >= 0 for limit in limits]):
                return tuple(ray)
    return None


def corner(limits, shares):
    """A row of so many shares at which the limits hold, and at which as many independent ones hold with equality."""
    # The product of no shares at all is greatest everywhere.
    return greatest(limits, (0,) * shares)[2]


def fits(limits, row):
    """Whether all of the limits hold at this row of shares."""
    for limit in limits:
        if compared(limit.top, limit.bottom, limit.powers, row) > 0:
            return False
    return True


def combination(times, numbers, shares):
    """The combination (point 12 of DOC.md) with these numbers, a dict by the places of the limits."""
    findings = [numbers.get(slot, 0) for slot in range(SHARES_PLACE)]
    of_shares = [numbers.get(SHARES_PLACE + share, 0) for share in range(shares)]
    return times, tuple(findings), tuple(of_shares)


def units(size):
    """The rows with 1 at one place and 0 elsewhere, in the order of that place."""
    return [tuple([1 if place == at else 0 for place in range(size)]) for at in range(size)]


def product_sum(one, two):
    """The sum of the products of the numbers at the same places."""
    return sum([a * b for a, b in zip(one, two)])


def products(numbers, table):
    """The sum of the products of the numbers and each column of the table."""
    return [product_sum(numbers, column) for column in zip(*table)]


def reduced(numbers):
    """The same integers, divided by their greatest common divisor (not all of them are 0)."""
    common = 0
    for number in numbers:
        common = gcd(common, number)
    return [number // common for number in numbers]


def inverse(rows):
    """(times, table) with times >= 1, where the product of the rows and the table is times the unit rows.

    The rows have as many integers as there are rows. None if one of them is a sum of multiples of the others.
    """
    size = len(rows)
    lines = [[*row, *unit] for row, unit in zip(rows, units(size))]
    before = 1
    for at in range(size):
        usable = [k for k in range(at, size) if lines[k][at] != 0]
        if not usable:
            return None
        head = lines[usable[0]]
        lines[usable[0]] = lines[at]
        # Without fractions: each number stays a minor of the given rows, so each of these divisions leaves no rest.
        lines = [head if k == at else _cleared(line, head, at, before) for k, line in enumerate(lines)]
        before = head[at]
    sign = 1 if before > 0 else -1
    return sign * before, [[sign * number for number in line[size:]] for line in lines]


def _cleared(line, head, at, before):
    """The line with 0 at this place, a multiple of the head taken from a multiple of it."""
    return [(head[at] * number - line[at] * its) // before for number, its in zip(line, head)]


def _row_of_equality(chosen, found):
    """The row at which the chosen limits hold with equality, from the inverse of their powers that was found.

    It is no row of shares, and the limits of the shares do not hold at it, if a value in it is greater than 1.
    """
    root, table = found
    fractions = []
    for line in table:
        top = 1
        bottom = 1
        for limit, number in zip(chosen, line):
            above, below = (limit.bottom, limit.top) if number > 0 else (limit.top, limit.bottom)
            top = top * raised(above, abs(number))
            bottom = bottom * raised(below, abs(number))
        fractions.append(tuple(reduced([top, bottom])))
    return root, tuple(fractions)


def _decided(limits, powers, top, bottom, strict):
    """As settled, for the question whether top times these powers is at most (if strict: less than) bottom."""
    found = greatest(limits, powers)
    if found is None:
        return None, _row_beyond(limits, powers, top, bottom)
    times, numbers, row = found
    # What holds where the product is greatest holds everywhere, and the numbers of the limits show it.
    sign = compared(top, bottom, powers, row)
    if sign < 0 or (sign == 0 and not strict):
        return combination(times, numbers, len(powers)), None
    return None, row


def _row_beyond(limits, powers, top, bottom):
    """A row at which the limits hold and top times these powers is greater than bottom; the powers have no bound."""
    start = corner(limits, len(powers))
    ray = growing_ray(limits, powers)
    steps = 1
    row = _moved(start, ray, steps)
    while compared(top, bottom, powers, row) <= 0:
        steps = 2 * steps
        row = _moved(start, ray, steps)
    return row


def _moved(row, ray, steps):
    """The row with each share multiplied by t to its number in the ray, where t is the root of 1/2 ** steps."""
    root, fractions = row
    return root, tuple([(top, bottom << steps * number) for (top, bottom), number in zip(fractions, ray)])


def _common_line(rows, size):
    """Integers that have the sum 0 with each of the rows, which are one fewer; None if the rows are not independent.

    One of the integers is greater than 0: if they are no ray, their opposites are none either.
    """
    for unit in units(size):
        found = inverse([*rows, unit])
        if found is not None:
            return reduced([line[-1] for line in found[1]])
    return None
