"""The book: findings that lengths are at most as long as other lengths."""

from twicewashed.errors import BadShares, Clash, Full, Mismatch, NoSlot
from twicewashed.lengths import MOST_SHARES, check_numbers
from twicewashed.limits import corner, fits, limits_of, settled
from twicewashed.shares import check_row


class Book:
    """Six slots, each empty or with a finding (left, right). There are always rows of shares that fit all findings."""

    SLOTS = 6

    def __init__(self, shares):
        if not 1 <= shares <= MOST_SHARES:
            raise BadShares("the number of shares is out of range")
        self.shares = shares
        self._entries = [None] * Book.SLOTS

    def __getitem__(self, at):
        self._check_slot(at)
        return self._entries[at]

    def __setitem__(self, at, worth):
        self._check_slot(at)
        left, right = worth
        check_numbers(self.shares, (left, right))
        self._put(at, left, right)

    def __iter__(self):
        return iter(self._entries)

    def __contains__(self, x):
        check_row(x)
        _, fractions = x
        if len(fractions) != self.shares:
            raise Mismatch("the row is written for another number of shares")
        return fits(limits_of(self._entries, self.shares), x)

    @property
    def held(self):
        """The number of findings."""
        return len([entry for entry in self._entries if entry is not None])

    def add(self, left, right):
        """Puts the finding into the first empty slot and returns the number of the slot."""
        check_numbers(self.shares, (left, right))
        empty = [slot for slot, entry in enumerate(self._entries) if entry is None]
        if not empty:
            raise Full("no slot of the book is empty")
        self._put(empty[0], left, right)
        return empty[0]

    def drop(self, slot):
        """Empties the slot."""
        self._check_slot(slot)
        self._entries = self._without(slot)

    def example(self):
        """A row of shares that fits the book."""
        return corner(limits_of(self._entries, self.shares), self.shares)

    def _put(self, slot, left, right):
        """Puts the finding into the slot, or raises Clash."""
        entries = self._without(slot)
        # A finding leaves no fitting row exactly if the other findings show that it holds nowhere.
        shown, _ = settled(limits_of(entries, self.shares), right, left, strict=True)
        if shown is not None:
            times, findings, shares = shown
            raise Clash(slot, findings[:slot] + (times,) + findings[slot + 1:], shares)
        entries[slot] = (left, right)
        self._entries = entries

    def _without(self, slot):
        """A new list of the entries, with this slot empty."""
        return [None if at == slot else entry for at, entry in enumerate(self._entries)]

    def _check_slot(self, slot):
        if not 0 <= slot < Book.SLOTS:
            raise NoSlot("there is no slot of this number")
