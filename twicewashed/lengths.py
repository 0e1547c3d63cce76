"""Lengths: a count times a product of powers of the unknown shares."""

from twicewashed.errors import BadLength, Mismatch, NoShare, TooOften

MOST_SHARES = 4


class Length:
    """A count times a power of each share. Its attributes never change."""

    MOST = 1000000
    DEEP = 2

    def __init__(self, count, powers):
        powers = tuple(powers)
        if not 1 <= count <= Length.MOST:
            raise BadLength("the count is out of range")
        if not 1 <= len(powers) <= MOST_SHARES:
            raise BadLength("the number of powers is out of range")
        for power in powers:
            if not 0 <= power <= Length.DEEP:
                raise BadLength("a power is out of range")
        self.count = count
        self.powers = powers

    @classmethod
    def plain(cls, count, shares):
        """The length with this count and the power 0 of each of so many shares."""
        # Checked before the powers are made: the number may be too large for a tuple.
        if not 1 <= shares <= MOST_SHARES:
            raise BadLength("the number of shares is out of range")
        return cls(count, (0,) * shares)

    def __eq__(self, other):
        return isinstance(other, Length) and self.count == other.count and self.powers == other.powers

    def __ne__(self, other):
        return not self == other

    def __le__(self, other):
        if not isinstance(other, Length):
            return NotImplemented
        return self._shrinks_like(other) and self.count <= other.count

    def __lt__(self, other):
        if not isinstance(other, Length):
            return NotImplemented
        return self._shrinks_like(other) and self.count < other.count

    def __ge__(self, other):
        if not isinstance(other, Length):
            return NotImplemented
        return other <= self

    def __gt__(self, other):
        if not isinstance(other, Length):
            return NotImplemented
        return other < self

    def __mul__(self, other):
        if not isinstance(other, int):
            return NotImplemented
        return Length(self.count * other, self.powers)

    def __rmul__(self, other):
        return self * other

    def washed(self, share):
        """The length after a washing that multiplies it by this share."""
        if not 0 <= share < len(self.powers):
            raise NoShare("there is no share of this number")
        if self.powers[share] == Length.DEEP:
            raise TooOften("the power of this share is already the greatest one")
        before = self.powers[:share]
        after = self.powers[share + 1:]
        return Length(self.count, before + (self.powers[share] + 1,) + after)

    def _shrinks_like(self, other):
        """Whether each share has at least the power here that it has in the other length."""
        if len(self.powers) != len(other.powers):
            raise Mismatch("the lengths are written for different numbers of shares")
        return all([mine >= its for mine, its in zip(self.powers, other.powers)])


def check_numbers(shares, lengths):
    """Raises Mismatch if a length is not written for so many shares."""
    for length in lengths:
        if len(length.powers) != shares:
            raise Mismatch("a length is written for another number of shares")


def divided(left, right):
    """The powers of the quotient of two lengths with the same number of shares."""
    return tuple([mine - its for mine, its in zip(left.powers, right.powers)])
