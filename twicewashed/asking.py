"""Comparisons of lengths at all rows of shares that fit a book."""

from itertools import combinations

from twicewashed.errors import Mismatch
from twicewashed.lengths import check_numbers, divided
from twicewashed.limits import combination, greatest, growing_ray, limits_of, settled
from twicewashed.shares import raised


def ask(book, left, right):
    """Whether left is at most right always, never or at some fitting rows only, and what shows it."""
    check_numbers(book.shares, (left, right))
    limits = limits_of(list(book), book.shares)
    shown, breaking = settled(limits, left, right)
    if shown is not None:
        return "always", shown
    shown, holding = settled(limits, right, left, strict=True)
    if shown is not None:
        return "never", shown
    return "open", holding, breaking


def carriers(book, left, right):
    """All sets with the fewest slots whose findings alone show that left is at most right."""
    check_numbers(book.shares, (left, right))
    held = _held_slots(book)
    if not _always(book, held, left, right):
        return []
    many = 0
    found = _carrying(book, held, many, left, right)
    while not found:
        many = many + 1
        found = _carrying(book, held, many, left, right)
    return found


def needless(book):
    """The slots of the findings that hold at all rows that fit the book without this one finding."""
    held = _held_slots(book)
    found = []
    for slot in held:
        left, right = book[slot]
        if _always(book, [at for at in held if at != slot], left, right):
            found.append(slot)
    return tuple(found)


def breach(book, other):
    """The first slot of the other book whose finding fails at a row that fits the book, and this row; or None."""
    if book.shares != other.shares:
        raise Mismatch("the books are written for different numbers of shares")
    limits = limits_of(list(book), book.shares)
    for slot, entry in enumerate(other):
        if entry is not None:
            left, right = entry
            _, breaking = settled(limits, left, right)
            if breaking is not None:
                return slot, breaking
    return None


def most(book, left, right):
    """The greatest quotient of left and right over all fitting rows, or a ray along which it has no bound."""
    check_numbers(book.shares, (left, right))
    limits = limits_of(list(book), book.shares)
    powers = divided(left, right)
    found = greatest(limits, powers)
    if found is None:
        return "endless", growing_ray(limits, powers)
    times, numbers, row = found
    top = raised(left.count, times)
    bottom = raised(right.count, times)
    for limit in limits:
        number = numbers.get(limit.place, 0)
        top = top * raised(limit.bottom, number)
        bottom = bottom * raised(limit.top, number)
    return "bound", (times, (top, bottom)), combination(times, numbers, book.shares), row


def _held_slots(book):
    """The slots that are not empty, in ascending order."""
    return [slot for slot, entry in enumerate(book) if entry is not None]


def _carrying(book, held, many, left, right):
    """All sets of so many of the held slots that carry the comparison."""
    return [slots for slots in combinations(held, many) if _always(book, slots, left, right)]


def _always(book, slots, left, right):
    """Whether left is at most right at all rows that fit the findings in these slots."""
    entries = [entry if slot in slots else None for slot, entry in enumerate(book)]
    shown, _ = settled(limits_of(entries, book.shares), left, right)
    return shown is not None
