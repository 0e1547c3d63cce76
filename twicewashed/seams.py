"""Seams: two lengths that are sewn together, where one may be a little longer than the other."""

from twicewashed.asking import most
from twicewashed.errors import BadEase
from twicewashed.lengths import Length, check_numbers, divided
from twicewashed.limits import Limit, corner, limits_of, settled
from twicewashed.shares import check_weighed, compared, raised

MOST_EASE = 1000
LONGEST_CUT = 999


class Seam:
    """Two lengths that are joined, and the ease (p, q): the longer one may be p/q times as long as the shorter one."""

    def __init__(self, left, right, *, ease=(1, 1)):
        check_numbers(len(left.powers), (right,))
        self.left = left
        self.right = right
        self._ease = _checked_ease(ease)

    def __call__(self, shares):
        check_weighed(self.left, self.right, shares)
        p, q = self._ease
        longer = compared(q * self.left.count, p * self.right.count, divided(self.left, self.right), shares)
        shorter = compared(q * self.right.count, p * self.left.count, divided(self.right, self.left), shares)
        return longer <= 0 and shorter <= 0

    @property
    def ease(self):
        """The pair (p, q)."""
        return self._ease

    @ease.setter
    def ease(self, value):
        self._ease = _checked_ease(value)

    def change(self, ease):
        """Assigns the ease."""
        self.ease = ease


def judge(book, seam):
    """Whether the seam closes at all, at none or at some of the fitting rows, and what shows it."""
    left = seam.left
    right = seam.right
    check_numbers(book.shares, (left, right))
    p, q = seam.ease
    limits = limits_of(list(book), book.shares)
    first, left_too_long = settled(limits, left, right, factors=(q, p))
    second, right_too_long = settled(limits, right, left, factors=(q, p))
    if first is not None and second is not None:
        return "closes", first, second
    # The seam gapes on one side only if the other side is never too long.
    if right_too_long is None:
        shown, _ = settled(limits, right, left, factors=(p, q), strict=True)
        if shown is not None:
            return "gapes", "left", shown
    if left_too_long is None:
        shown, _ = settled(limits, left, right, factors=(p, q), strict=True)
        if shown is not None:
            return "gapes", "right", shown
    return "open", _closing_row(limits, seam), right_too_long if left_too_long is None else left_too_long


def cuts(book, powers, other, *, ease=(1, 1)):
    """The counts with which an edge with these powers can be cut: (sure, maybe), each (first, last) or None."""
    edge = Length(1, powers)
    p, q = _checked_ease(ease)
    # With the count n the edge is at most n * longest times as long as the other length, and the other length is at
    # most shortest / n times as long as the edge.
    longest = _greatest_quotient(book, edge, other)
    shortest = _greatest_quotient(book, other, edge)
    first_sure = _first(lambda n: _weighed(q, shortest, p * n) <= 0)
    behind_sure = _first(lambda n: _weighed(q * n, longest, p) > 0)
    first_maybe = _first(lambda n: _weighed(p * n, longest, q) >= 0)
    behind_maybe = _first(lambda n: _weighed(p, shortest, q * n) < 0)
    return _span(first_sure, behind_sure), _span(first_maybe, behind_maybe)


def _checked_ease(ease):
    """The ease as a pair (p, q), if it is one."""
    p, q = ease
    if not 1 <= q <= p <= MOST_EASE:
        raise BadEase("the ease is out of range")
    return p, q


def _closing_row(limits, seam):
    """A row of shares at which the limits hold and the seam closes; there is one."""
    p, q = seam.ease
    conditions = []
    for longer, shorter in ((seam.left, seam.right), (seam.right, seam.left)):
        conditions.append(Limit(None, divided(longer, shorter), q * longer.count, p * shorter.count))
    return corner(limits + conditions, len(seam.left.powers))


def _greatest_quotient(book, left, right):
    """The greatest quotient as (times, (top, bottom)), of which the root is to be taken; None if it is endless."""
    word, *told = most(book, left, right)
    return told[0] if word == "bound" else None


def _weighed(factor, quotient, number):
    """-1, 0 or 1 if factor times this greatest quotient is less than, equal to or greater than the number."""
    if quotient is None:
        # An endless quotient is greater than any number.
        return 1
    times, (top, bottom) = quotient
    rest = raised(factor, times) * top - raised(number, times) * bottom
    if rest < 0:
        return -1
    return 1 if rest > 0 else 0


def _first(test):
    """The first count that passes the test, which all larger ones pass, too; LONGEST_CUT + 1 if none passes it."""
    low = 1
    high = LONGEST_CUT + 1
    while low < high:
        middle = (low + high) // 2
        if test(middle):
            high = middle
        else:
            low = middle + 1
    return low


def _span(first, behind):
    """The first and the last one of these consecutive numbers, or None if there are none."""
    return (first, behind - 1) if first < behind else None
