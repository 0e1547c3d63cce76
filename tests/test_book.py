"""Points 1 and 9: the book."""

import unittest

from tests.helper import SPOILT, BookCase, book_of, entries, finding, random_books
from twicewashed.asking import ask
from twicewashed.book import Book
from twicewashed.errors import BadShares, Clash, Full, Mismatch, NoSlot
from twicewashed.lengths import Length

NO_SLOTS = (-6, -2, -1, 6, 7, 1000, -10 ** 30, 10 ** 30)


def length(count, shares=1):
    return Length(count, (1,) * shares)


def full_book(shares=1):
    """Six findings that hold everywhere."""
    book = Book(shares)
    for count in range(1, 7):
        book.add(length(count, shares), length(10, shares))
    return book


class Made(BookCase):
    def test_class_value(self):
        self.assertEqual(Book.SLOTS, 6)
        self.assertEqual(Book(1).SLOTS, 6)

    def test_numbers_of_shares(self):
        for shares in (1, 2, 3, 4):
            book = Book(shares)
            self.assertEqual(entries(book), (shares, 0, [None] * 6))
        self.assertEqual(Book(shares=2).shares, 2)

    def test_numbers_of_shares_out_of_range(self):
        for shares in (-1, 0, 5, 6, -4, 10 ** 30, -10 ** 30):
            self.refused(BadShares, Book, shares)


class Added(BookCase):
    def test_first_empty_slot(self):
        book = Book(2)
        for slot in range(6):
            self.assertEqual(book.add(length(slot + 1, 2), length(9, 2)), slot)
            self.assertEqual(book.held, slot + 1)
        self.assertEqual([entry[0].count for entry in book], [1, 2, 3, 4, 5, 6])

    def test_first_empty_slot_behind_a_drop(self):
        book = full_book()
        book.drop(4)
        book.drop(2)
        self.assertEqual(book.add(length(20), length(21)), 2)
        self.assertEqual(book.add(length(30), length(31)), 4)
        self.assertEqual([entry[0].count for entry in book], [1, 2, 20, 4, 30, 6])
        book.drop(5)
        book.drop(0)
        self.assertEqual(book.add(length(40), length(41)), 0)
        self.assertEqual(book.add(length(50), length(51)), 5)

    def test_first_empty_slot_behind_a_slot_that_was_set(self):
        book = Book(1)
        book[1] = (length(1), length(2))
        self.assertEqual(book.add(length(3), length(4)), 0)
        self.assertEqual(book.add(length(5), length(6)), 2)

    def test_mismatch(self):
        for shares in (1, 2, 3, 4):
            for other in (1, 2, 3, 4):
                if other != shares:
                    book = Book(shares)
                    right_one = length(5, shares)
                    wrong_one = length(5, other)
                    self.refused(Mismatch, book.add, wrong_one, right_one)
                    self.refused(Mismatch, book.add, right_one, wrong_one)
                    self.refused(Mismatch, book.add, wrong_one, wrong_one)
                    self.assertEqual(book.held, 0)

    def test_full(self):
        book = full_book()
        before = entries(book)
        self.refused(Full, book.add, length(1), length(2))
        self.refused(Full, book.add, Length(3, (0,)), Length(2, (0,)))
        self.assertEqual(entries(book), before)

    def test_full_comes_behind_mismatch(self):
        book = full_book()
        self.refused(Mismatch, book.add, length(1, 2), length(2))
        self.refused(Mismatch, book.add, length(1), length(2, 2))
        self.refused(Mismatch, book.add, Length(3, (0, 0)), Length(2, (0, 0)))

    def test_mismatch_comes_before_clash(self):
        self.refused(Mismatch, Book(1).add, Length(3, (0, 0)), Length(2, (0, 0)))

    def test_a_refused_finding_takes_no_slot(self):
        book = Book(1)
        self.refused(Clash, book.add, Length(3, (0,)), Length(2, (0,)))
        self.assertEqual(book.add(length(1), length(2)), 0)

    def test_names_of_the_arguments(self):
        book = Book(1)
        self.assertEqual(book.add(left=length(1), right=length(2)), 0)
        self.assertIsNone(book.drop(slot=0))


class Slots(BookCase):
    def test_no_slot(self):
        book = full_book()
        before = entries(book)
        for slot in NO_SLOTS:
            self.refused(NoSlot, book.__getitem__, slot)
            self.refused(NoSlot, book.__setitem__, slot, (length(1), length(2)))
            self.refused(NoSlot, book.drop, slot)
        self.assertEqual(entries(book), before)

    def test_no_slot_comes_before_mismatch(self):
        for slot in NO_SLOTS:
            self.refused(NoSlot, Book(1).__setitem__, slot, (length(1, 2), length(2)))

    def test_mismatch_of_each_side(self):
        book = full_book()
        before = entries(book)
        for slot in range(6):
            self.refused(Mismatch, book.__setitem__, slot, (length(1, 2), length(2)))
            self.refused(Mismatch, book.__setitem__, slot, (length(1), length(2, 3)))
            self.refused(Mismatch, book.__setitem__, slot, (Length(3, (0, 0)), Length(2, (0, 0))))
        self.assertEqual(entries(book), before)

    def test_no_slot_comes_before_clash(self):
        for slot in NO_SLOTS:
            self.refused(NoSlot, Book(1).__setitem__, slot, (Length(3, (0,)), Length(2, (0,))))

    def test_each_slot(self):
        for slot in range(6):
            book = Book(1)
            left, right = length(3), length(4)
            book[slot] = (left, right)
            self.assertEqual([at for at in range(6) if book[at] is not None], [slot])
            self.assertIs(type(book[slot]), tuple)
            self.assertEqual(book[slot], (left, right))

    def test_replacing(self):
        book = full_book()
        book[3] = (length(20), length(21))
        self.assertEqual([entry[0].count for entry in book], [1, 2, 3, 20, 5, 6])
        self.assertEqual(book.held, 6)

    def test_a_replaced_finding_counts_no_more(self):
        book = book_of(1, (2, (1,), 1, (0,)))
        self.assertFalse((1, ((2, 3),)) in book)
        book[0] = finding(4, (1,), 3, (0,))
        self.assertTrue((1, ((2, 3),)) in book)
        self.assertFalse((1, ((4, 5),)) in book)

    def test_dropping(self):
        book = full_book()
        self.assertIsNone(book.drop(2))
        self.assertIsNone(book[2])
        self.assertEqual(book.held, 5)
        self.assertIsNone(book.drop(2))
        self.assertEqual(book.held, 5)
        for slot in range(6):
            book.drop(slot)
        self.assertEqual(entries(book), entries(Book(1)))

    def test_a_dropped_finding_counts_no_more(self):
        book = book_of(1, (2, (1,), 1, (0,)))
        book.drop(0)
        self.assertTrue((1, ((1, 1),)) in book)

    def test_iteration(self):
        book = book_of(1, None, (1, (1,), 2, (0,)), None, None, (3, (2,), 4, (1,)))
        self.assertEqual(len(list(book)), 6)
        self.assertEqual(list(book), [book[slot] for slot in range(6)])
        self.assertEqual([entry is None for entry in book], [True, False, True, True, False, True])
        got = list(book)
        got[1] = None
        self.assertIsNotNone(book[1])
        self.assertEqual(len([0 for _ in book for _ in book]), 36)

    def test_held(self):
        book = Book(1)
        self.assertEqual(book.held, 0)
        book[5] = (length(1), length(2))
        book[5] = (length(1), length(3))
        book[2] = (length(1), length(2))
        self.assertEqual(book.held, 2)
        with self.assertRaises(AttributeError):
            book.held = 3


class Fitting(BookCase):
    def test_every_row_fits_an_empty_book(self):
        for shares in (1, 2, 3, 4):
            for root in (1, 7, 1000):
                for fraction in ((1, 1), (1, 2), (1, 10 ** 50), (10 ** 50 - 1, 10 ** 50)):
                    self.assertIs((root, (fraction,) * shares) in Book(shares), True)

    def test_rows_in_and_not_in_the_book(self):
        book = book_of(1, (19, (0,), 20, (1,)))
        for row, answer in (
            ((1, ((19, 20),)), True), ((1, ((1, 1),)), True), ((1, ((189, 200),)), False), ((2, ((9, 10),)), False),
            ((2, ((361, 400),)), True), ((2, ((3609, 4000),)), False), ((2, ((3611, 4000),)), True),
            ((1000, ((19 ** 1000, 20 ** 1000),)), True), ((1000, ((19 ** 1000 - 1, 20 ** 1000),)), False),
        ):
            self.assertIs(row in book, answer, row)
            self.assertIs(row not in book, not answer, row)

    def test_every_finding_counts(self):
        row = (1, ((1, 2), (2, 3)))
        good = (3, (0, 1), 2, (0, 0))
        bad = (3, (1, 0), 1, (0, 0))
        self.assertTrue(row in book_of(2, good, good, good, good, good, good))
        for slot in range(6):
            findings = [good] * 6
            findings[slot] = bad
            self.assertFalse(row in book_of(2, *findings))
            findings = [None] * 6
            findings[slot] = bad
            self.assertFalse(row in book_of(2, *findings))

    def test_spoilt_rows(self):
        for many in (1, 2, 3, 4):
            for book in (Book(many), full_book(many)):
                for row in SPOILT:
                    # Most of them have another number of shares, too: this is told later.
                    self.refused(BadShares, book.__contains__, row)

    def test_mismatch(self):
        for shares in (1, 2, 3, 4):
            for many in (1, 2, 3, 4):
                if many != shares:
                    for book in (Book(shares), full_book(shares)):
                        self.refused(Mismatch, book.__contains__, (1, ((1, 2),) * many))

    def test_mismatch_of_a_row_that_would_fit_no_finding(self):
        self.refused(Mismatch, book_of(1, (2, (1,), 1, (0,))).__contains__, (1, ((1, 1), (1, 1))))

    def test_example_of_an_empty_book(self):
        for shares in (1, 2, 3, 4):
            book = Book(shares)
            self.check_row(book, book.example())

    def test_example_of_a_full_book(self):
        for shares in (1, 2, 3, 4):
            book = full_book(shares)
            self.check_row(book, book.example())

    def test_example_of_a_book_with_one_fitting_row(self):
        book = book_of(1, (2, (2,), 1, (0,)), (1, (0,), 2, (2,)))
        self.check_row(book, book.example())
        book = book_of(
            4, (3, (2, 0, 0, 1), 1, (0, 1, 0, 0)), (1, (0, 1, 0, 0), 3, (2, 0, 0, 1)), (5, (0, 2, 1, 0), 3, (0,) * 4),
            (3, (0, 0, 0, 0), 5, (0, 2, 1, 0)), (8, (0, 0, 2, 0), 7, (0, 0, 0, 2)), (7, (0, 0, 0, 2), 8, (0, 0, 2, 0)),
        )
        self.check_row(book, book.example())

    def test_examples_of_many_books(self):
        for book, _ in random_books(1, 120):
            self.check_row(book, book.example())


class NothingElseChanges(BookCase):
    def test_two_books_are_apart(self):
        one, two = Book(1), Book(1)
        one.add(length(1), length(2))
        self.assertEqual((one.held, two.held), (1, 0))
        two[3] = (length(1), length(2))
        one.drop(0)
        self.assertEqual((one.held, two.held), (0, 1))

    def test_questions_change_nothing(self):
        book = book_of(2, (19, (0, 1), 20, (1, 1)), None, (3, (1, 2), 4, (1, 1)))
        before = entries(book)
        book.example()
        list(book)
        self.assertTrue((1, ((1, 1), (3, 4))) in book)
        ask(book, length(5, 2), Length(4, (0, 0)))
        self.assertEqual(entries(book), before)

    def test_a_finding_may_stand_in_several_slots_and_books(self):
        left, right = finding(2, (1,), 1, (0,))
        one, two = Book(1), Book(1)
        for book in (one, two, one):
            book.add(left, right)
        one.drop(0)
        self.assertEqual((one.held, two.held, one[1]), (1, 1, (left, right)))


if __name__ == "__main__":
    unittest.main()
