"""Points 11, 12 and 13: ask."""

import unittest
from itertools import product

from tests.helper import BookCase, book_of, copied, entries, finding, random_books
from twicewashed.asking import ask
from twicewashed.book import Book
from twicewashed.errors import Clash, Mismatch
from twicewashed.lengths import Length

POWERS = ((0, 0), (0, 1), (1, 0), (2, 1), (0, 2), (2, 2))


class WithoutFindings(BookCase):
    def test_as_the_order_of_lengths(self):
        for shares in (1, 2):
            rows = [row[:shares] for row in POWERS]
            for m, n, p, q in product((1, 2, 1000000), (1, 2, 999999), rows, rows):
                left, right = Length(m, p), Length(n, q)
                due = "open"
                if left <= right:
                    due = "always"
                elif right < left:
                    due = "never"
                self.assertEqual(self.asked(Book(shares), left, right), due)

    def test_equal_lengths(self):
        for shares in (1, 2, 3, 4):
            for powers in ((0,) * shares, (1,) * shares, (2,) * shares):
                self.assertEqual(self.asked(Book(shares), Length(7, powers), Length(7, powers)), "always")

    def test_one_fitting_row_in_sight(self):
        """They are equal where all shares are 1, and different everywhere else."""
        none = (0, 0, 0)
        self.assertEqual(self.asked(Book(3), Length(5, none), Length(5, (1, 2, 1))), "open")
        self.assertEqual(self.asked(Book(3), Length(5, (1, 2, 1)), Length(5, none)), "always")

    def test_far_along_a_ray(self):
        self.assertEqual(self.asked(Book(1), Length(1000000, (2,)), Length(1, (1,))), "open")
        self.assertEqual(self.asked(Book(4), Length(1000000, (2, 0, 1, 0)), Length(1, (1, 0, 2, 1))), "open")
        self.assertEqual(self.asked(Book(4), Length(1, (2, 0, 1, 0)), Length(1000000, (2, 1, 1, 1))), "open")


class OneShare(BookCase):
    def check(self, book, questions):
        for m, p, n, q, due in questions:
            self.assertEqual(self.asked(book, Length(m, (p,)), Length(n, (q,))), due, (m, p, n, q))

    def test_at_least_19_of_20(self):
        self.check(book_of(1, (19, (0,), 20, (1,))), (
            (40, 1, 38, 0, "open"), (38, 0, 40, 1, "always"), (40, 1, 40, 0, "always"), (40, 1, 37, 0, "never"),
            (37, 0, 40, 1, "always"), (39, 0, 40, 1, "open"), (41, 0, 40, 1, "never"), (40, 0, 40, 1, "open"),
            (361, 0, 400, 2, "always"), (362, 0, 400, 2, "open"), (400, 2, 380, 1, "open"),
            (400, 2, 361, 1, "never"), (400, 2, 360, 0, "never"),
            (19, 1, 20, 2, "always"), (20, 1, 20, 2, "open"), (21, 1, 20, 2, "never"),
        ))

    def test_from_9_to_19_of_20(self):
        """Equality at the edges counts for at most, and not for less."""
        self.check(book_of(1, (9, (0,), 20, (1,)), None, (20, (1,), 19, (0,))), (
            (20, 1, 19, 0, "always"), (20, 1, 18, 0, "open"), (19, 0, 20, 1, "open"), (20, 0, 20, 1, "never"),
            (20, 1, 9, 0, "open"), (20, 1, 8, 0, "never"), (9, 0, 20, 1, "always"), (400, 2, 361, 0, "always"),
            (400, 2, 81, 0, "open"), (400, 2, 80, 0, "never"), (81, 0, 400, 2, "always"), (20, 2, 19, 1, "always"),
            (20, 2, 18, 1, "open"), (19, 2, 20, 1, "always"),
        ))

    def test_findings_that_hold_with_equality_only(self):
        """The square of the share is 1/2."""
        book = book_of(1, (2, (2,), 1, (0,)), (1, (0,), 2, (2,)))
        self.check(book, (
            (2, 2, 1, 0, "always"), (1, 0, 2, 2, "always"), (7, 0, 10, 1, "always"), (10, 1, 7, 0, "never"),
            (5, 0, 7, 1, "never"), (7, 1, 5, 0, "always"), (470832, 0, 665857, 1, "always"),
            (665857, 1, 470832, 0, "never"), (470833, 0, 665857, 1, "never"), (665857, 1, 470833, 0, "always"),
            (3, 2, 3, 1, "always"), (3, 1, 3, 2, "never"), (1000000, 2, 500000, 0, "always"),
            (999999, 2, 500000, 0, "always"), (1000000, 2, 499999, 0, "never"),
        ))

    def test_nearly_equal_at_a_fitting_row(self):
        book = book_of(1, (999999, (2,), 999998, (0,)), None, None, None, (999998, (0,), 999999, (2,)))
        self.check(book, (
            (1000000, 2, 999999, 0, "always"), (999999, 0, 1000000, 2, "never"), (999999, 2, 999998, 0, "always"),
            (999998, 2, 999997, 0, "never"), (1, 2, 1, 1, "always"), (1000000, 1, 999999, 0, "never"),
        ))

    def test_share_is_1(self):
        book = book_of(1, (1, (0,), 1, (2,)))
        self.check(book, (
            (5, 0, 5, 1, "always"), (5, 1, 5, 0, "always"), (6, 2, 5, 0, "never"), (5, 2, 6, 0, "always"),
        ))


class SeveralShares(BookCase):
    def test_chain(self):
        book = book_of(
            4, (10, (0, 1, 0, 0), 9, (1, 0, 0, 0)), (10, (0, 0, 1, 0), 9, (0, 1, 0, 0)),
            (10, (0, 0, 0, 1), 9, (0, 0, 1, 0)),
        )
        none = (0, 0, 0, 0)
        for left, right, due in (
            (Length(1000, (0, 0, 0, 1)), Length(729, (1, 0, 0, 0)), "always"),
            (Length(1000, (0, 0, 0, 1)), Length(728, (1, 0, 0, 0)), "open"),
            (Length(729, (1, 0, 0, 0)), Length(1000, (0, 0, 0, 1)), "open"),
            (Length(730, (1, 0, 0, 0)), Length(1000, (0, 0, 0, 1)), "never"),
            (Length(1000, (0, 0, 0, 1)), Length(729, none), "always"),
            (Length(1000, (0, 0, 0, 1)), Length(728, none), "open"),
            (Length(100, (0, 0, 1, 0)), Length(81, (2, 0, 0, 0)), "open"),
            (Length(9, (0, 0, 2, 1)), Length(9, (1, 2, 0, 0)), "always"),
        ):
            self.assertEqual(self.asked(book, left, right), due)

    def test_times_greater_than_1(self):
        """Of three shares each one's square is at most a multiple of the next one: 7 times the question is needed."""
        book = book_of(3, (2, (2, 0, 0), 1, (0, 1, 0)), (3, (0, 2, 0), 1, (0, 0, 1)), (5, (0, 0, 2), 1, (1, 0, 0)))
        # x0 ** 7 is at most 1/720 and can be this much.
        for n, due in ((390000, "open"), (391000, "always"), (1000000, "always")):
            self.assertEqual(self.asked(book, Length(1000000, (1, 0, 0)), Length(n, (0, 0, 0))), due)
        self.assertEqual(390669 ** 7 * 720 < 10 ** 42 < 390670 ** 7 * 720, True)
        self.assertEqual(self.asked(book, Length(1000000, (1, 0, 0)), Length(390669, (0, 0, 0))), "open")
        self.assertEqual(self.asked(book, Length(1000000, (1, 0, 0)), Length(390670, (0, 0, 0))), "always")

    def test_a_ray_with_several_numbers(self):
        """The first share is at least the square of the second: both become small together."""
        book = book_of(2, (1, (0, 2), 1, (1, 0)), (1, (1, 0), 1, (0, 1)))
        self.assertEqual(self.asked(book, Length(1, (1, 0)), Length(1000000, (0, 2))), "open")
        self.assertEqual(self.asked(book, Length(1000000, (1, 0)), Length(1, (0, 1))), "open")
        self.assertEqual(self.asked(book, Length(1000000, (1, 1)), Length(1, (0, 0))), "open")
        self.assertEqual(self.asked(book, Length(1, (2, 0)), Length(1, (0, 2))), "always")

    def test_lengths_that_are_equal_at_all_fitting_rows(self):
        book = book_of(2, (3, (1, 0), 2, (0, 2)), (2, (0, 2), 3, (1, 0)))
        self.assertEqual(self.asked(book, Length(3, (2, 0)), Length(2, (1, 2))), "always")
        self.assertEqual(self.asked(book, Length(2, (1, 2)), Length(3, (2, 0))), "always")
        self.assertEqual(self.asked(book, Length(4, (2, 0)), Length(2, (1, 2))), "never")
        self.assertEqual(self.asked(book, Length(2, (1, 2)), Length(4, (2, 0))), "always")

    def test_many_books(self):
        words = {"always": 0, "never": 0, "open": 0}
        for book, make in random_books(13, 160):
            before = entries(book)
            for _ in range(3):
                left, right = make(), make()
                word = self.asked(book, left, right)
                words[word] += 1
                other = self.asked(book, right, left)
                if word == "never":
                    self.assertEqual(other, "always")
                if word == "open":
                    self.assertNotEqual(other, "never")
            for entry in book:
                if entry is not None:
                    self.assertEqual(self.asked(book, *entry), "always")
            self.assertEqual(entries(book), before)
        self.assertTrue(all(many > 40 for many in words.values()), words)

    def test_hard_numbers(self):
        """Books whose findings have powers 0 and 2 and large counts need large numbers."""
        book = book_of(
            4, (999983, (2, 0, 2, 0), 1000000, (0, 2, 0, 1)), (1, (0, 2, 0, 0), 999999, (2, 0, 2, 2)),
            (999979, (2, 2, 0, 0), 999961, (0, 0, 2, 1)), (7, (0, 2, 2, 0), 1000, (2, 0, 0, 2)),
            (1, (1, 0, 0, 0), 1000000, (0, 2, 2, 2)), (3, (0, 0, 0, 2), 2, (1, 0, 1, 0)),
        )
        for p, q in product(((2, 0, 0, 0), (0, 1, 0, 2), (0, 0, 2, 1), (2, 2, 0, 0)), repeat=2):
            for m, n in ((1, 1), (1000000, 1), (1, 1000000), (999983, 999979)):
                self.asked(book, Length(m, p), Length(n, q))


    def test_corners_with_the_largest_root(self):
        """Four findings whose powers are 2 and -2 throughout: their corner needs the 256th root."""
        book = book_of(
            4, (999983, (2, 2, 2, 2), 9, (0, 0, 0, 0)), (999979, (2, 0, 2, 0), 999961, (0, 2, 0, 2)),
            (1000000, (2, 2, 0, 0), 999959, (0, 0, 2, 2)), (999953, (2, 0, 0, 2), 999917, (0, 2, 2, 0)),
            (8, (0, 0, 0, 0), 999983, (2, 2, 2, 2)), (999917, (0, 2, 0, 2), 999979, (2, 0, 2, 0)),
        )
        self.check_row(book, book.example())
        rows = ((2, 0, 0, 0), (0, 1, 0, 0), (0, 0, 2, 1), (1, 1, 1, 1), (2, 2, 2, 2), (0, 2, 0, 1), (0, 0, 0, 0))
        for p, q in product(rows, repeat=2):
            for m, n in ((1, 1), (1000000, 1), (999983, 999979), (17, 999983)):
                self.asked(book, Length(m, p), Length(n, q))


class Again(BookCase):
    def test_the_same_question_while_the_book_changes(self):
        left, right = Length(3, (1,)), Length(2, (0,))
        book = Book(1)
        other = book_of(1, (3, (0,), 4, (1,)))

        def words():
            return [self.asked(book, left, right), self.asked(other, left, right), self.asked(book, left, right)]

        self.assertEqual(words(), ["open", "never", "open"])
        book.add(*finding(2, (1,), 1, (0,)))
        self.assertEqual(words(), ["always", "never", "always"])
        book[0] = finding(5, (0,), 6, (1,))
        self.assertEqual(words(), ["never", "never", "never"])
        self.assertRaises(Clash, book.add, *finding(2, (1,), 1, (0,)))
        self.assertEqual(words(), ["never", "never", "never"])
        self.assertRaises(Clash, book.__setitem__, 0, finding(6, (0,), 5, (1,)))
        self.assertEqual(words(), ["never", "never", "never"])
        book.drop(0)
        self.assertEqual(words(), ["open", "never", "open"])
        book[5] = finding(2, (1,), 1, (0,))
        self.assertEqual(words(), ["always", "never", "always"])
        book[5] = finding(10, (1,), 7, (0,))
        self.assertEqual(words(), ["open", "never", "open"])
        other.drop(0)
        self.assertEqual(words(), ["open", "open", "open"])

    def test_a_copy_of_the_book_answers_alike(self):
        for book, make in random_books(14, 30):
            left, right = make(), make()
            self.assertEqual(self.asked(book, left, right), self.asked(copied(book), left, right))

    def test_the_same_entries_for_other_numbers_of_shares(self):
        for shares in (1, 2, 3, 4):
            book = Book(shares)
            powers = (1,) + (0,) * (shares - 1)
            book.add(Length(19, (0,) * shares), Length(20, powers))
            self.assertEqual(self.asked(book, Length(40, powers), Length(37, (0,) * shares)), "never")


class Refused(BookCase):
    def test_mismatch_for_each_argument(self):
        for many, odd in product((1, 2, 3, 4), repeat=2):
            if many != odd:
                length, other = Length(5, (1,) * many), Length(5, (1,) * odd)
                self.refused(Mismatch, ask, Book(odd), length, length)
                self.refused(Mismatch, ask, Book(many), other, length)
                self.refused(Mismatch, ask, Book(many), length, other)

    def test_names_of_the_arguments(self):
        self.assertEqual(ask(book=Book(1), left=Length(1, (0,)), right=Length(2, (0,)))[0], "always")


if __name__ == "__main__":
    unittest.main()
