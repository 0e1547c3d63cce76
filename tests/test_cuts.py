"""Point 18: cuts."""

import random
import unittest
from itertools import product

from tests.helper import BookCase, book_of, entries, finding, random_books
from twicewashed.book import Book
from twicewashed.errors import BadEase, BadLength, Mismatch
from twicewashed.lengths import Length
from twicewashed.seams import Seam, cuts


class Cuts(BookCase):
    def words(self, book, powers, other, ease, counts):
        return [self.judged(book, Seam(Length(n, powers), other, ease=ease)) for n in counts]

    def check(self, book, powers, other, ease=(1, 1), due=None):
        """Checks each edge of the two ranges by judge; they must be as due, if this is not None."""
        got = cuts(book, powers, other, ease=ease)
        self.assertEqual((type(got), len(got)), (tuple, 2))
        if due is not None:
            self.assertEqual(got, due)
        for span, answers in zip(got, (("closes",), ("closes", "open"))):
            inside = []
            outside = [1, 250, 500, 750, 999]
            if span is not None:
                self.assertEqual((type(span), len(span)), (tuple, 2))
                first, last = span
                self.assertTrue(1 <= first <= last <= 999, span)
                inside = [first, (first + last) // 2, last]
                outside = [n for n in (1, first - 1, last + 1, 999) if 1 <= n <= 999 and not first <= n <= last]
            for word in self.words(book, powers, other, ease, inside):
                self.assertIn(word, answers)
            for word in self.words(book, powers, other, ease, outside):
                self.assertNotIn(word, answers)
        sure, maybe = got
        if sure is not None:
            self.assertTrue(maybe[0] <= sure[0] and sure[1] <= maybe[1])
        return got

    def test_the_example(self):
        book = book_of(1, (19, (0,), 20, (1,)))
        self.check(book, (1,), Length(38, (0,)), (21, 20), ((39, 39), (37, 42)))

    def test_without_findings(self):
        book = Book(1)
        self.check(book, (1,), Length(40, (1,)), due=((40, 40), (40, 40)))
        self.check(book, (0,), Length(40, (1,)), due=(None, (1, 40)))
        self.check(book, (1,), Length(40, (0,)), due=(None, (40, 999)))
        self.check(book, (2,), Length(40, (2,)), (21, 20), ((39, 42), (39, 42)))
        self.check(book, (0,), Length(40, (1,)), (21, 20), (None, (1, 42)))
        self.check(book, (1,), Length(40, (0,)), (21, 20), (None, (39, 999)))
        self.check(Book(2), (1, 0), Length(40, (0, 1)), (21, 20), (None, (1, 999)))

    def test_none_on_both_sides(self):
        for shares in (1, 2, 3, 4):
            powers = (1,) * shares
            self.check(Book(shares), powers, Length(1000, powers), due=(None, None))
            self.check(Book(shares), powers, Length(1000000, powers), (1000, 1), (None, None))
        self.check(Book(1), (1,), Length(1000, (0,)), due=(None, None))
        self.check(Book(1), (2,), Length(1000000, (2,)), (1000, 2), (None, None))
        self.check(book_of(1, (2, (1,), 1, (0,))), (0,), Length(1, (1,)), due=(None, None))
        self.check(book_of(1, (3, (1,), 2, (0,)), (2, (0,), 3, (1,))), (0,), Length(1, (1,)), due=(None, None))

    def test_first_and_last_of_all(self):
        self.check(Book(1), (0,), Length(1, (0,)), due=((1, 1), (1, 1)))
        self.check(Book(1), (0,), Length(999, (0,)), due=((999, 999), (999, 999)))
        self.check(Book(1), (0,), Length(1000, (0,)), (1000, 999), ((999, 999), (999, 999)))
        self.check(Book(1), (0,), Length(1000, (0,)), (1000, 1), ((1, 999), (1, 999)))
        self.check(Book(1), (0,), Length(1000000, (0,)), (1000, 1), (None, None))
        self.check(Book(1), (0,), Length(999000, (0,)), (1000, 1), ((999, 999), (999, 999)))
        self.check(Book(1), (0,), Length(500, (0,)), (2, 1), ((250, 999), (250, 999)))
        self.check(Book(1), (0,), Length(2, (0,)), (2, 1), ((1, 4), (1, 4)))
        self.check(Book(1), (1,), Length(999, (0,)), due=(None, (999, 999)))
        self.check(Book(1), (0,), Length(1, (1,)), due=(None, (1, 1)))

    def test_between_two_bounds(self):
        book = book_of(1, (9, (0,), 10, (1,)), (20, (1,), 19, (0,)))
        self.check(book, (1,), Length(90, (0,)), (10, 9), ((90, 105), (86, 111)))
        self.check(book, (0,), Length(100, (1,)), (10, 9), ((86, 100), (81, 105)))
        self.check(book, (1,), Length(90, (0,)), (1, 1), (None, (95, 100)))
        self.check(book, (1,), Length(90, (0,)), (20, 19), ((95, 99), (90, 105)))
        self.check(book, (1,), Length(90, (0,)), (19, 18), ((95, 100), (90, 105)))

    def test_roots(self):
        """The square of the share is 1/2."""
        book = book_of(1, (2, (2,), 1, (0,)), (1, (0,), 2, (2,)))
        self.check(book, (1,), Length(500, (0,)), (1, 1), (None, None))
        self.check(book, (1,), Length(500, (0,)), (1000, 999), ((707, 707), (707, 707)))
        self.check(book, (0,), Length(500, (1,)), (100, 99), ((351, 357), (351, 357)))
        self.check(book, (2,), Length(100, (0,)), (1, 1), ((200, 200), (200, 200)))
        # One step of the count is too much: 70 is too short, and 71 is too long.
        self.check(book, (1,), Length(50, (0,)), (500, 499), (None, None))

    def test_powers_as_a_list_that_is_not_kept(self):
        powers = [1]
        book = book_of(1, (19, (0,), 20, (1,)))
        self.assertEqual(cuts(book, powers, Length(38, (0,)), ease=(21, 20)), ((39, 39), (37, 42)))
        self.assertEqual(powers, [1])

    def test_every_count(self):
        """Each number from 1 to 999 by judge."""
        book = book_of(2, (9, (0, 1), 10, (1, 0)), (8, (0, 0), 9, (1, 1)), (10, (0, 1), 9, (0, 0)))
        for powers, other, ease in (((1, 0), Length(700, (0, 1)), (21, 20)), ((0, 2), Length(600, (1, 1)), (6, 5))):
            words = self.words(book, powers, other, ease, range(1, 1000))
            sure = [n for n, word in enumerate(words, 1) if word == "closes"]
            maybe = [n for n, word in enumerate(words, 1) if word in ("closes", "open")]
            self.assertEqual(maybe, list(range(maybe[0], maybe[-1] + 1)))
            self.assertEqual(sure, list(range(sure[0], sure[-1] + 1)))
            self.check(book, powers, other, ease, ((sure[0], sure[-1]), (maybe[0], maybe[-1])))

    def test_many_books(self):
        chance = random.Random(18)
        kinds = {}
        for book, make in random_books(18, 60):
            before = entries(book)
            other = make()
            q = chance.choice((1, 10, 100, 999))
            ease = (q + chance.choice((0, 1)), q)
            sure, maybe = self.check(book, make().powers, other, ease)
            kinds[(sure is None, maybe is None)] = True
            self.assertEqual(entries(book), before)
            for powers in (other.powers, (0,) * book.shares):
                self.check(book, powers, other, ease)
        self.assertEqual(len(kinds), 3)


class Refused(BookCase):
    def test_bad_powers(self):
        book, other = Book(2), Length(5, (1, 1))
        for powers in ((), [], (0,) * 5, (3, 0), (0, 3), (-1, 0), (0, -1), [2, 10 ** 30]):
            self.refused(BadLength, cuts, book, powers, other)
            self.refused(BadLength, cuts, book, powers, other, ease=(1, 0))
            self.refused(BadLength, cuts, Book(1), powers, other)

    def test_bad_eases(self):
        for ease in ((1, 0), (0, 0), (1, -1), (-1, -1), (20, 21), (1001, 1), (1001, 1001), (10 ** 30, 1)):
            self.refused(BadEase, cuts, Book(2), (1, 0), Length(5, (1, 1)), ease=ease)
            self.refused(BadEase, cuts, Book(2), (1,), Length(5, (1, 1)), ease=ease)
            self.refused(BadEase, cuts, Book(1), (1, 0), Length(5, (1,)), ease=ease)

    def test_mismatch_for_each_argument(self):
        for many, odd in product((1, 2, 3, 4), repeat=2):
            if many != odd:
                self.refused(Mismatch, cuts, Book(odd), (1,) * many, Length(5, (1,) * many))
                self.refused(Mismatch, cuts, Book(many), (1,) * odd, Length(5, (1,) * many))
                self.refused(Mismatch, cuts, Book(many), (1,) * many, Length(5, (1,) * odd))

    def test_the_ease_is_passed_by_keyword(self):
        with self.assertRaises(TypeError):
            cuts(Book(1), (0,), Length(5, (0,)), (2, 1))
        self.assertEqual(cuts(book=Book(1), powers=(0,), other=Length(5, (0,)), ease=(1, 1)), ((5, 5), (5, 5)))

    def test_behind_changes_of_the_book(self):
        book = Book(1)
        self.assertEqual(cuts(book, (1,), Length(38, (0,))), (None, (38, 999)))
        book.add(*finding(19, (0,), 20, (1,)))
        self.assertEqual(cuts(book, (1,), Length(38, (0,))), (None, (38, 40)))
        book[0] = finding(38, (0,), 41, (1,))
        self.assertEqual(cuts(book, (1,), Length(38, (0,))), (None, (38, 41)))
        book.drop(0)
        self.assertEqual(cuts(book, (1,), Length(38, (0,))), (None, (38, 999)))


if __name__ == "__main__":
    unittest.main()
