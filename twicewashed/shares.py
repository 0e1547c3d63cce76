"""Rows of shares, and how two lengths compare at such a row."""

from twicewashed.errors import BadShares, Mismatch
from twicewashed.lengths import MOST_SHARES

MOST_ROOT = 1000
KEPT_BITS = 256


def check_row(shares):
    """Raises BadShares if this is not a row of shares."""
    root, fractions = shares
    if not 1 <= root <= MOST_ROOT:
        raise BadShares("the root is out of range")
    if not 1 <= len(fractions) <= MOST_SHARES:
        raise BadShares("the number of shares is out of range")
    for top, bottom in fractions:
        if not 1 <= top <= bottom:
            raise BadShares("a share is not greater than 0 and at most 1")


def weigh(left, right, shares):
    """-1, 0 or 1 if left is less than, equal to or greater than right at these shares."""
    check_row(shares)
    root, fractions = shares
    if len(left.powers) != len(fractions) or len(right.powers) != len(fractions):
        raise Mismatch("the lengths and the row do not have the same number of shares")
    above = []
    below = []
    for mine, its, (top, bottom) in zip(left.powers, right.powers, fractions):
        above.extend([top] * (mine - its) + [bottom] * (its - mine))
        below.extend([bottom] * (mine - its) + [top] * (its - mine))
    # Both lengths are raised to the power of the root, so that no root is left to take.
    above.append(_power(left.count, root))
    below.append(_power(right.count, root))
    return _compared_products(above, below)


def _compared_products(above, below):
    """-1, 0 or 1 if the product of the first list is less than, equal to or greater than the other."""
    # A share may have a million digits: such products are only computed where rough bounds do not decide.
    least_above, most_above = _bounds(above)
    least_below, most_below = _bounds(below)
    if most_above < least_below:
        return -1
    if least_above > most_below:
        return 1
    return _sign(_multiplied(above) - _multiplied(below))


def _bounds(factors):
    """A pair of integers, one at most and one at least the product, from the first bits of each factor."""
    least = []
    most = []
    shift = 0
    for factor in factors:
        dropped = max(0, factor.bit_length() - KEPT_BITS)
        kept = factor >> dropped
        least.append(kept)
        most.append(kept + 1 if dropped else kept)
        shift = shift + dropped
    return _multiplied(least) << shift, _multiplied(most) << shift


def _power(base, exponent):
    result = 1
    while exponent > 0:
        if exponent & 1:
            result = result * base
        base = base * base
        exponent = exponent >> 1
    return result


def _multiplied(factors):
    """The product of the factors, of which there is at least one."""
    # Neighbours first: Python is faster with factors of about the same size.
    while len(factors) > 1:
        paired = len(factors) // 2 * 2
        pairs = [factors[at] * factors[at + 1] for at in range(0, paired, 2)]
        factors = pairs + factors[paired:]
    return factors[0]


def _sign(number):
    if number < 0:
        return -1
    return 1 if number > 0 else 0
