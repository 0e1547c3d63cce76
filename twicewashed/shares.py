"""Rows of shares, and how two lengths compare at such a row."""

from twicewashed.errors import BadShares
from twicewashed.lengths import MOST_SHARES, check_numbers, divided

MOST_ROOT = 1000
KEPT_BITS = 256


def check_row(shares):
    """Raises BadShares if this is not a row of shares."""
    root, fractions = shares
    if not 1 <= root <= MOST_ROOT:
        raise BadShares("the root is out of range")
    if not 1 <= len(fractions) <= MOST_SHARES:
        raise BadShares("the number of shares is out of range")
    for top, bottom in fractions:
        if not 1 <= top <= bottom:
            raise BadShares("a share is not greater than 0 and at most 1")


def check_weighed(left, right, shares):
    """Raises what weigh raises for these lengths and this row."""
    check_row(shares)
    _, fractions = shares
    check_numbers(len(fractions), (left, right))


def weigh(left, right, shares):
    """-1, 0 or 1 if left is less than, equal to or greater than right at these shares."""
    check_weighed(left, right, shares)
    return compared(left.count, right.count, divided(left, right), shares)


def compared(top, bottom, powers, shares):
    """-1, 0 or 1 if top times these powers of the shares is less than, equal to or greater than bottom."""
    root, fractions = shares
    above = []
    below = []
    for power, (part, whole) in zip(powers, fractions):
        above.extend([part] * power + [whole] * -power)
        below.extend([whole] * power + [part] * -power)
    # Both sides are raised to the power of the root, so that no root is left to take.
    above.append(raised(top, root))
    below.append(raised(bottom, root))
    return _compared_products(above, below)


def raised(base, exponent):
    """The base to the power of the exponent, which is at least 0."""
    result = 1
    while exponent > 1:
        if exponent & 1:
            result = result * base
        base = base * base
        exponent = exponent >> 1
    return result * base if exponent else result


def _compared_products(above, below):
    """-1, 0 or 1 if the product of the first list is less than, equal to or greater than the other."""
    # A share may have a million digits: such products are only computed where rough bounds do not decide.
    least_above, most_above = _bounds(above)
    least_below, most_below = _bounds(below)
    if most_above < least_below:
        return -1
    if least_above > most_below:
        return 1
    return _sign(_multiplied(above) - _multiplied(below))


def _bounds(factors):
    """A pair of integers, one at most and one at least the product, from the first bits of each factor."""
    least = []
    most = []
    shift = 0
    for factor in factors:
        dropped = max(0, factor.bit_length() - KEPT_BITS)
        kept = factor >> dropped
        least.append(kept)
        most.append(kept + 1 if dropped else kept)
        shift = shift + dropped
    return _multiplied(least) << shift, _multiplied(most) << shift


def _multiplied(factors):
    """The product of the factors, of which there is at least one."""
    # Neighbours first: Python is faster with factors of about the same size.
    while len(factors) > 1:
        paired = len(factors) // 2 * 2
        pairs = [factors[at] * factors[at + 1] for at in range(0, paired, 2)]
        factors = pairs + factors[paired:]
    return factors[0]


def _sign(number):
    if number < 0:
        return -1
    return 1 if number > 0 else 0
