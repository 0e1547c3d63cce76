"""What several tests share: what can be asked of a room, and checks of what is told about a book."""

import random
import unittest

from twicewashed.asking import ask, most
from twicewashed.book import Book
from twicewashed.errors import Clash, NoBolt, TooOften
from twicewashed.lengths import Length
from twicewashed.seams import Seam, judge

SIDES = ("along", "across")
MOST_BITS = 3321928  # the numbers with at most a million digits have no more
SPOILT = (
    (0, ((1, 2),)), (-1, ((1, 2),)), (1001, ((1, 2),)), (1, ()), (1, ((1, 2),) * 5), (1, ((0, 1),)), (1, ((2, 1),)),
    (1, ((1, 0),)), (1, ((-1, 2),)), (1, ((-2, -1),)), (1, ((1, 2), (3, 2))), (2, ((1, 2), (1, 2), (0, 2))),
)


def told(length):
    return length.count, length.powers


def pair(room, piece):
    """The two present lengths of a piece."""
    return [told(room.edge(piece, side)) for side in SIDES]


def end(room, piece, side):
    """The finished length, or the word for the error."""
    try:
        return told(room.finished(piece, side))
    except TooOften:
        return "too often"


def washings_to_come(room):
    """One number for each bolt; the bolts are counted by asking for them."""
    numbers = []
    while True:
        try:
            numbers.append(room.coming(len(numbers)))
        except NoBolt:
            return numbers


def everything(room):
    """All that can be asked of a room."""
    pieces = range(room.pieces)
    return {
        "pieces": room.pieces,
        "present": [pair(room, piece) for piece in pieces],
        "finished": [[end(room, piece, side) for side in SIDES] for piece in pieces],
        "coming": washings_to_come(room),
        "walk": [(bolt, told(along), told(across)) for bolt, along, across in room.walk()],
    }


def finding(m, p, n, q):
    """That m times the powers p is at most n times the powers q."""
    return Length(m, p), Length(n, q)


def book_of(shares, *findings):
    """A book with these findings in its first slots; each is (m, p, n, q), or None for an empty slot."""
    book = Book(shares)
    for slot, entry in enumerate(findings):
        if entry is not None:
            book[slot] = finding(*entry)
    return book


def copied(book, slots=range(6)):
    """A new book with the findings in these slots."""
    copy = Book(book.shares)
    for slot in slots:
        if book[slot] is not None:
            copy[slot] = book[slot]
    return copy


def entries(book):
    """All that a book holds, in plain values."""
    return book.shares, book.held, [entry and (told(entry[0]), told(entry[1])) for entry in book]


def weighed(m, left, n, right, row):
    """-1, 0 or 1 for m times left and n times right at the row, computed without the program."""
    root, fractions = row
    one = (m * left.count) ** root
    two = (n * right.count) ** root
    for p, q, (top, bottom) in zip(left.powers, right.powers, fractions):
        one *= top ** max(p - q, 0) * bottom ** max(q - p, 0)
        two *= bottom ** max(p - q, 0) * top ** max(q - p, 0)
    return (one > two) - (one < two)


def closes(seam, row):
    p, q = seam.ease
    return weighed(q, seam.left, p, seam.right, row) <= 0 and weighed(q, seam.right, p, seam.left, row) <= 0


def turned_by(numbers, left, right):
    """The sum of the numbers times the powers of left / right."""
    return sum(number * (p - q) for number, p, q in zip(numbers, left.powers, right.powers))


def random_length(chance, shares, counts):
    return Length(chance.choice(counts), [chance.randint(0, 2) for _ in range(shares)])


def random_books(seed, many):
    """Pairs of a book with up to six findings and a function that makes a length for it; always the same ones."""
    chance = random.Random(seed)
    for at in range(many):
        shares = at % 4 + 1
        counts = chance.choice(((1, 2, 3, 4), tuple(range(95, 106)), (1, 2, 4, 8, 16), (1, 999983, 999999, 1000000)))
        book = Book(shares)
        for _ in range(chance.randint(0, 9)):
            left = random_length(chance, shares, counts)
            right = random_length(chance, shares, counts)
            slot = chance.randrange(6)
            if book[slot] is not None and chance.random() < 0.4:
                # Turned about, a finding makes another one hold with equality.
                right, left = book[slot]
                slot = chance.randrange(6)
            try:
                book[slot] = (left, right)
            except Clash:
                pass
        yield book, lambda shares=shares, counts=counts: random_length(chance, shares, counts)


class BookCase(unittest.TestCase):
    """Checks of answers about a book by the words of the document, whichever of the allowed answers they are."""

    def refused(self, kind, call, *parts, **named):
        with self.assertRaises(kind) as caught:
            call(*parts, **named)
        self.assertIs(type(caught.exception), kind)
        return caught.exception

    def check_numbers(self, numbers, many, least, greatest):
        self.assertIs(type(numbers), tuple)
        self.assertEqual(len(numbers), many)
        for number in numbers:
            self.assertIs(type(number), int)
            self.assertTrue(least <= number <= greatest, numbers)

    def check_row(self, book, row):
        """That the row keeps the bounds and fits the book."""
        self.assertEqual((type(row), len(row)), (tuple, 2))
        root, fractions = row
        self.check_numbers((root,), 1, 1, 1000)
        self.assertEqual((type(fractions), len(fractions)), (tuple, book.shares))
        for fraction in fractions:
            self.assertEqual((type(fraction), len(fraction)), (tuple, 2))
            top, bottom = fraction
            self.assertEqual((type(top), type(bottom)), (int, int))
            self.assertTrue(1 <= top <= bottom and bottom.bit_length() <= MOST_BITS)
        for entry in book:
            if entry is not None:
                self.assertLessEqual(weighed(1, entry[0], 1, entry[1], row), 0)
        self.assertIs(row in book, True)

    def check_shown(self, book, combination, m, left, n, right, strict=False):
        """That the combination shows that m times left is at most (or less than) n times right."""
        top, bottom = self.check_balance(book, combination, left, right)
        times = combination[0]
        top *= m ** times
        bottom *= n ** times
        self.assertTrue(top < bottom if strict else top <= bottom, combination)

    def check_balance(self, book, combination, left, right):
        """That the combination balances left and right; returns left.count ** times * R, right.count ** times * L."""
        self.assertEqual((type(combination), len(combination)), (tuple, 3))
        times, findings, shares = combination
        self.check_numbers((times,), 1, 1, 1000)
        self.check_numbers(findings, 6, 0, 1000)
        self.check_numbers(shares, book.shares, 0, 1000)
        sums = list(shares)
        top = left.count ** times
        bottom = right.count ** times
        for number, entry in zip(findings, book):
            if entry is None:
                self.assertEqual(number, 0)
                continue
            l, r = entry
            sums = [total + number * (p - q) for total, p, q in zip(sums, l.powers, r.powers)]
            top *= r.count ** number
            bottom *= l.count ** number
        self.assertEqual(sums, [times * (p - q) for p, q in zip(left.powers, right.powers)])
        return top, bottom

    def clashed(self, book, slot, left, right):
        """Puts the finding into the slot, or adds it if the slot is None; checks that and how this is refused."""
        before = entries(book)
        if slot is None:
            error = self.refused(Clash, book.add, left, right)
            meant = before[2].index(None)
        else:
            error = self.refused(Clash, book.__setitem__, slot, (left, right))
            meant = slot
        self.assertEqual(entries(book), before)
        self.assertEqual(error.slot, meant)
        self.check_numbers(error.findings, 6, 0, 1000)
        self.check_numbers(error.shares, book.shares, 0, 1000)
        held = list(book)
        held[meant] = (left, right)
        sums = list(error.shares)
        one = two = 1
        for number, entry in zip(error.findings, held):
            if entry is None:
                self.assertEqual(number, 0)
                continue
            l, r = entry
            sums = [total + number * (p - q) for total, p, q in zip(sums, l.powers, r.powers)]
            one *= l.count ** number
            two *= r.count ** number
        self.assertEqual(sums, [0] * book.shares)
        self.assertGreater(one, two)
        return error

    def asked(self, book, left, right):
        """The word that ask returns; what shows it is checked."""
        word, *shown = ask(book, left, right)
        if word == "always":
            self.check_shown(book, *shown, 1, left, 1, right)
        elif word == "never":
            self.check_shown(book, *shown, 1, right, 1, left, strict=True)
        else:
            self.assertEqual(word, "open")
            holding, breaking = shown
            self.check_row(book, holding)
            self.check_row(book, breaking)
            self.assertLessEqual(weighed(1, left, 1, right, holding), 0)
            self.assertEqual(weighed(1, left, 1, right, breaking), 1)
        return word

    def judged(self, book, seam):
        """The word that judge returns, or the side that is too long; what shows it is checked."""
        word, *shown = judge(book, seam)
        p, q = seam.ease
        if word == "closes":
            first, second = shown
            self.check_shown(book, first, q, seam.left, p, seam.right)
            self.check_shown(book, second, q, seam.right, p, seam.left)
        elif word == "gapes":
            side, combination = shown
            self.assertIn(side, ("left", "right"))
            longer, shorter = (seam.left, seam.right) if side == "left" else (seam.right, seam.left)
            self.check_shown(book, combination, p, shorter, q, longer, strict=True)
            return side
        else:
            self.assertEqual(word, "open")
            closing, gaping = shown
            self.check_row(book, closing)
            self.check_row(book, gaping)
            self.assertEqual([closes(seam, closing), closes(seam, gaping)], [True, False])
            self.assertEqual([seam(closing), seam(gaping)], [True, False])
        return word

    def bound(self, book, left, right):
        """The value that most returns, or its ray; all else is checked."""
        word, *shown = most(book, left, right)
        if word == "endless":
            ray, = shown
            self.check_numbers(ray, book.shares, 0, 1000)
            for entry in book:
                if entry is not None:
                    self.assertGreaterEqual(turned_by(ray, *entry), 0)
            self.assertLess(turned_by(ray, left, right), 0)
            return word, ray
        self.assertEqual(word, "bound")
        value, combination, row = shown
        self.assertEqual(value, (combination[0], self.check_balance(book, combination, left, right)))
        self.check_row(book, row)
        for number, entry in zip(combination[1], book):
            if number > 0:
                self.assertEqual(weighed(1, *entry[:1], 1, *entry[1:], row), 0)
        for number, (top, bottom) in zip(combination[2], row[1]):
            if number > 0:
                self.assertEqual(top, bottom)
        return word, value
