"""Point 15: most."""

import unittest
from itertools import product

from tests.helper import BookCase, book_of, entries, random_books
from twicewashed.asking import most
from twicewashed.book import Book
from twicewashed.errors import Mismatch
from twicewashed.lengths import Length


class Most(BookCase):
    def check_bound(self, book, left, right, root, top, bottom):
        """That the greatest quotient is the root of top/bottom."""
        word, told = self.bound(book, left, right)
        self.assertEqual(word, "bound")
        times, (above, below) = told
        self.assertEqual(above ** root * bottom ** times, below ** root * top ** times)

    def check_endless(self, book, left, right):
        self.assertEqual(self.bound(book, left, right)[0], "endless")

    def test_without_findings(self):
        for shares in (1, 2, 3, 4):
            none, one, two = (0,) * shares, (1,) * shares, (2,) * shares
            self.check_bound(Book(shares), Length(3, none), Length(4, none), 1, 3, 4)
            self.check_bound(Book(shares), Length(3, two), Length(4, one), 1, 3, 4)
            self.check_endless(Book(shares), Length(3, one), Length(4, two))
            for at in range(shares):
                deeper = tuple(2 if j == at else 1 for j in range(shares))
                self.check_bound(Book(shares), Length(6, deeper), Length(4, one), 1, 3, 2)
                self.check_endless(Book(shares), Length(3, one), Length(1000000, deeper))
                self.check_endless(Book(shares), Length(1, one), Length(1, deeper))

    def test_up_in_one_share_and_down_in_another(self):
        self.check_endless(Book(2), Length(1, (2, 0)), Length(1, (0, 1)))
        self.check_bound(book_of(2, (1, (1, 0), 1, (0, 1))), Length(1, (2, 0)), Length(1, (0, 1)), 1, 1, 1)
        self.check_endless(book_of(2, (1, (1, 0), 1, (0, 1))), Length(1, (0, 1)), Length(1, (2, 0)))

    def test_the_fraction_is_not_reduced(self):
        word, (times, (top, bottom)), combination, row = most(Book(1), Length(6, (0,)), Length(4, (0,)))
        self.assertEqual((word, top, bottom, combination), ("bound", 6 ** times, 4 ** times, (times, (0,) * 6, (0,))))
        self.check_row(Book(1), row)

    def test_one_share_the_same_question_the_other_way_round(self):
        book = book_of(1, (9, (0,), 20, (1,)), (20, (1,), 19, (0,)))
        one, share, square = Length(1, (0,)), Length(1, (1,)), Length(1, (2,))
        for left, right, top, bottom in (
            (share, one, 19, 20), (one, share, 20, 9), (square, one, 361, 400), (one, square, 400, 81),
            (square, share, 19, 20), (share, square, 20, 9), (share, share, 1, 1),
        ):
            self.check_bound(book, left, right, 1, top, bottom)

    def test_roots(self):
        book = book_of(1, (3, (2,), 2, (0,)))
        self.check_bound(book, Length(1, (1,)), Length(1, (0,)), 2, 2, 3)
        self.check_endless(book, Length(1, (0,)), Length(1, (1,)))
        self.check_bound(book, Length(5, (2,)), Length(7, (0,)), 1, 10, 21)
        book.add(Length(1, (0,)), Length(2, (2,)))
        self.check_bound(book, Length(5, (0,)), Length(7, (1,)), 2, 50, 49)
        chain = book_of(3, (2, (2, 0, 0), 1, (0, 1, 0)), (3, (0, 2, 0), 1, (0, 0, 1)), (5, (0, 0, 2), 1, (1, 0, 0)))
        self.check_bound(chain, Length(1, (1, 0, 0)), Length(1, (0, 0, 0)), 7, 1, 720)
        self.check_bound(chain, Length(4, (2, 0, 0)), Length(3, (0, 0, 0)), 7, 4 ** 7, 3 ** 7 * 720 ** 2)
        self.check_endless(chain, Length(1, (0, 0, 0)), Length(1, (1, 0, 0)))

    def test_a_corner_behind_the_edge_of_the_shares(self):
        """The finding alone would allow a first share greater than 1."""
        book = book_of(2, (1, (2, 0), 4, (0, 1)))
        self.check_bound(book, Length(1, (1, 0)), Length(1, (0, 0)), 1, 1, 1)
        self.check_bound(book, Length(1, (2, 0)), Length(1, (0, 1)), 1, 4, 1)
        self.check_endless(book, Length(1, (1, 0)), Length(1, (0, 1)))

    def test_rays_with_several_numbers(self):
        """The square of each share is at least the next share; the last one becomes small with it."""
        book = book_of(3, (1, (2, 0, 0), 1, (0, 1, 0)), (1, (0, 2, 0), 1, (0, 0, 1)), (1, (0, 0, 1), 1, (1, 0, 0)))
        # x0 ** 4 <= x1 ** 2 <= x2 <= x0
        for left, right in (((0, 0, 0), (1, 0, 0)), ((0, 0, 1), (1, 0, 2)), ((0, 0, 0), (0, 0, 1))):
            self.check_endless(book, Length(1, left), Length(1000000, right))
        self.check_bound(book, Length(1, (2, 0, 0)), Length(1, (0, 1, 0)), 1, 1, 1)
        self.check_endless(book, Length(1, (0, 1, 0)), Length(1, (2, 0, 0)))

    def test_equality_only(self):
        book = book_of(2, (3, (1, 0), 2, (0, 2)), (2, (0, 2), 3, (1, 0)))
        self.check_bound(book, Length(1, (1, 0)), Length(1, (0, 2)), 1, 2, 3)
        self.check_bound(book, Length(1, (0, 2)), Length(1, (1, 0)), 1, 3, 2)
        self.check_bound(book, Length(1, (1, 0)), Length(1, (0, 0)), 1, 2, 3)
        self.check_bound(book, Length(1, (2, 1)), Length(1, (0, 2)), 1, 4, 9)
        self.check_endless(book, Length(1, (0, 1)), Length(1, (1, 0)))

    def test_large_counts(self):
        book = book_of(1, (1000000, (2,), 999999, (0,)), (999997, (0,), 999999, (2,)))
        self.check_bound(book, Length(1000000, (1,)), Length(1, (0,)), 2, 999999 * 1000000, 1)
        self.check_bound(book, Length(1, (0,)), Length(1000000, (1,)), 2, 999999, 999997 * 10 ** 12)

    def test_the_largest_root(self):
        """Four findings whose powers are 2 and -2 throughout: the first share is the eighth root of their product."""
        counts = (999983, 9), (999979, 999961), (1000000, 999959), (999953, 999917)
        powers = (
            ((2, 2, 2, 2), (0, 0, 0, 0)), ((2, 0, 2, 0), (0, 2, 0, 2)), ((2, 2, 0, 0), (0, 0, 2, 2)),
            ((2, 0, 0, 2), (0, 2, 2, 0)),
        )
        book = book_of(4, *[(m, p, n, q) for (m, n), (p, q) in zip(counts, powers)])
        top = bottom = 1
        for m, n in counts:
            top *= n
            bottom *= m
        self.check_bound(book, Length(3, (1, 0, 0, 0)), Length(2, (0, 0, 0, 0)), 8, top * 3 ** 8, bottom * 2 ** 8)
        for p, q in product(((2, 0, 0, 0), (0, 1, 0, 0), (0, 0, 2, 1), (1, 1, 1, 1), (0, 2, 0, 1)), repeat=2):
            self.bound(book, Length(1, p), Length(1, q))

    def test_many_books(self):
        words = {"bound": 0, "endless": 0}
        roots = {}
        for book, make in random_books(15, 200):
            before = entries(book)
            left, right = make(), make()
            for one, two in ((left, right), (right, left)):
                word, value = self.bound(book, one, two)
                words[word] += 1
                if word == "bound":
                    roots[value[0]] = True
                    # It is at most 1 exactly if the comparison is "always".
                    self.assertEqual(self.asked(book, one, two) == "always", value[1][0] <= value[1][1])
                else:
                    self.assertNotEqual(self.asked(book, one, two), "always")
            self.assertEqual(entries(book), before)
        self.assertTrue(min(words.values()) > 80, words)
        self.assertTrue(len(roots) > 2, roots)

    def test_behind_changes_of_the_book(self):
        book = Book(1)
        left, right = Length(1, (0,)), Length(1, (1,))
        self.check_endless(book, left, right)
        book.add(Length(1, (0,)), Length(3, (1,)))
        self.check_bound(book, left, right, 1, 3, 1)
        book[0] = (Length(1, (0,)), Length(5, (2,)))
        self.check_bound(book, left, right, 2, 5, 1)
        book.drop(0)
        self.check_endless(book, left, right)

    def test_mismatch_for_each_argument(self):
        for many, odd in product((1, 2, 3, 4), repeat=2):
            if many != odd:
                length, other = Length(5, (1,) * many), Length(5, (1,) * odd)
                self.refused(Mismatch, most, Book(odd), length, length)
                self.refused(Mismatch, most, Book(many), other, length)
                self.refused(Mismatch, most, Book(many), length, other)

    def test_names_of_the_arguments(self):
        self.assertEqual(most(book=Book(1), left=Length(1, (0,)), right=Length(1, (1,)))[0], "endless")


if __name__ == "__main__":
    unittest.main()
