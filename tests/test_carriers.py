"""Point 14: carriers and needless; breach."""

import unittest
from itertools import combinations, product

from tests.helper import BookCase, book_of, copied, entries, finding, random_books, weighed
from twicewashed.asking import ask, breach, carriers, needless
from twicewashed.book import Book
from twicewashed.errors import Mismatch
from twicewashed.lengths import Length

CHAIN = (
    (10, (0, 1, 0, 0), 9, (1, 0, 0, 0)), (10, (0, 0, 1, 0), 9, (0, 1, 0, 0)), (10, (0, 0, 0, 1), 9, (0, 0, 1, 0)),
)


def tried(book, left, right):
    """The carriers, by asking a book for each set of slots."""
    held = [slot for slot in range(6) if book[slot] is not None]
    for many in range(len(held) + 1):
        found = [s for s in combinations(held, many) if ask(copied(book, s), left, right)[0] == "always"]
        if found:
            return found
    return []


class Carriers(BookCase):
    def check(self, book, left, right, due):
        got = carriers(book, left, right)
        self.assertEqual(got, due)
        self.assertIs(type(got), list)
        for slots in got:
            self.assertIs(type(slots), tuple)

    def test_the_example(self):
        self.check(book_of(1, (19, (0,), 20, (1,))), Length(18, (0,)), Length(19, (1,)), [(0,)])

    def test_no_set(self):
        self.check(Book(1), Length(2, (0,)), Length(1, (0,)), [])
        self.check(Book(1), Length(5, (0,)), Length(5, (1,)), [])
        self.check(book_of(1, (19, (0,), 20, (1,))), Length(20, (1,)), Length(19, (0,)), [])
        self.check(book_of(4, *CHAIN), Length(1000, (0, 0, 0, 1)), Length(728, (1, 0, 0, 0)), [])

    def test_no_finding_is_needed(self):
        self.check(Book(1), Length(5, (1,)), Length(5, (0,)), [()])
        self.check(book_of(1, (19, (0,), 20, (1,)), (1, (1,), 1, (0,))), Length(5, (2,)), Length(5, (1,)), [()])
        self.check(book_of(4, *CHAIN), Length(5, (1, 1, 0, 0)), Length(5, (0, 1, 0, 0)), [()])

    def test_one_slot(self):
        left, right = Length(3, (1,)), Length(2, (0,))
        half = (2, (1,), 1, (0,))
        self.check(book_of(1, None, None, None, None, None, half), left, right, [(5,)])
        self.check(book_of(1, None, half, (1, (0,), 3, (1,)), (3, (1,), 2, (0,))), left, right, [(1,), (3,)])
        self.check(book_of(1, half, half, half, half, half, half), left, right, [(slot,) for slot in range(6)])

    def test_two_slots(self):
        book = book_of(4, *CHAIN)
        self.check(book, Length(100, (0, 0, 1, 0)), Length(81, (1, 0, 0, 0)), [(0, 1)])
        self.check(book, Length(100, (0, 0, 0, 1)), Length(81, (0, 1, 0, 0)), [(1, 2)])
        book[5] = finding(*CHAIN[1])
        book[4] = finding(*CHAIN[0])
        due = [(0, 1), (0, 5), (1, 4), (4, 5)]
        self.check(book, Length(100, (0, 0, 1, 0)), Length(81, (1, 0, 0, 0)), due)

    def test_three_slots(self):
        book = book_of(4, None, *CHAIN, CHAIN[1])
        self.check(book, Length(1000, (0, 0, 0, 1)), Length(729, (1, 0, 0, 0)), [(1, 2, 3), (1, 3, 4)])
        book[0] = finding(1000, (0, 0, 0, 1), 729, (0, 0, 0, 0))
        self.check(book, Length(1000, (0, 0, 0, 1)), Length(729, (1, 0, 0, 0)), [(1, 2, 3), (1, 3, 4)])
        self.check(book, Length(1000, (0, 0, 0, 1)), Length(729, (0, 0, 0, 0)), [(0,)])

    def test_four_slots(self):
        book = book_of(
            4, (2, (2, 0, 0, 0), 1, (0, 1, 0, 0)), (3, (0, 2, 0, 0), 1, (0, 0, 1, 0)), (1, (0,) * 4, 1, (0,) * 4),
            (5, (0, 0, 2, 0), 1, (0, 0, 0, 1)), (7, (0, 0, 0, 2), 1, (1, 0, 0, 0)),
        )
        bound = next(n for n in range(1, 1000) if n ** 15 * 2 ** 8 * 3 ** 4 * 5 ** 2 * 7 >= 1000 ** 15)
        self.check(book, Length(1000, (1, 0, 0, 0)), Length(bound, (0, 0, 0, 0)), [(0, 1, 3, 4)])
        self.check(book, Length(1000, (1, 0, 0, 0)), Length(bound - 1, (0, 0, 0, 0)), [])

    def test_never_is_not_always(self):
        book = book_of(1, (3, (0,), 4, (1,)))
        self.check(book, Length(3, (1,)), Length(2, (0,)), [])

    def test_many_books(self):
        sizes = {}
        for book, make in random_books(140, 100):
            before = entries(book)
            left, right = make(), make()
            due = tried(book, left, right)
            self.check(book, left, right, due)
            sizes[len(due[0]) if due else None] = True
            self.assertEqual(entries(book), before)
        self.assertTrue({None, 0, 1} <= set(sizes))

    def test_products_of_findings(self):
        """What follows from two findings at once."""
        for book, _ in random_books(141, 60):
            held = [entry for entry in book if entry is not None]
            for (a, b), (c, d) in combinations(held, 2):
                counts = a.count * c.count, b.count * d.count
                powers = [[p + q for p, q in zip(x.powers, y.powers)] for x, y in ((a, c), (b, d))]
                if max(counts) <= 1000000 and max(map(max, powers)) <= 2:
                    left, right = Length(counts[0], powers[0]), Length(counts[1], powers[1])
                    got = carriers(book, left, right)
                    self.assertEqual(got, tried(book, left, right))
                    self.assertTrue(got)

    def test_a_new_list_each_time(self):
        book = book_of(1, (2, (1,), 1, (0,)))
        got = carriers(book, Length(2, (1,)), Length(1, (0,)))
        got.append("spoilt")
        self.check(book, Length(2, (1,)), Length(1, (0,)), [(0,)])

    def test_mismatch_for_each_argument(self):
        for many, odd in product((1, 2, 3, 4), repeat=2):
            if many != odd:
                length, other = Length(5, (1,) * many), Length(5, (1,) * odd)
                self.refused(Mismatch, carriers, Book(odd), length, length)
                self.refused(Mismatch, carriers, Book(many), other, length)
                self.refused(Mismatch, carriers, Book(many), length, other)


class Needless(BookCase):
    def check(self, book, due):
        got = needless(book)
        self.assertEqual(got, due)
        self.assertIs(type(got), tuple)

    def test_none(self):
        self.check(Book(3), ())
        self.check(book_of(1, (2, (1,), 1, (0,))), ())
        self.check(book_of(4, *CHAIN), ())

    def test_true_without_any_finding(self):
        self.check(book_of(1, (2, (1,), 1, (0,)), (5, (1,), 5, (0,)), None, (5, (2,), 5, (2,))), (1, 3))

    def test_two_equal_findings(self):
        half = (2, (1,), 1, (0,))
        self.check(book_of(1, half, None, half), (0, 2))
        self.check(book_of(1, half, (4, (2,), 2, (1,)), (1, (0,), 3, (1,))), (0, 1))

    def test_a_weaker_finding(self):
        self.check(book_of(1, (2, (1,), 1, (0,)), (3, (1,), 2, (0,))), (1,))
        self.check(book_of(1, (3, (1,), 2, (0,)), (2, (1,), 1, (0,))), (0,))

    def test_the_product_of_two_others(self):
        book = book_of(4, *CHAIN)
        book[4] = finding(100, (0, 0, 1, 0), 81, (1, 0, 0, 0))
        self.check(book, (4,))
        book[4] = finding(101, (0, 0, 1, 0), 81, (1, 0, 0, 0))
        self.check(book, ())

    def test_a_root_of_two_others(self):
        book = book_of(2, (4, (2, 0), 1, (0, 1)), (4, (0, 1), 1, (0, 0)), (4, (1, 0), 1, (0, 0)))
        self.check(book, (2,))

    def test_many_books(self):
        found = 0
        for book, _ in random_books(142, 80):
            due = []
            for slot in range(6):
                if book[slot] is not None:
                    rest = copied(book, [at for at in range(6) if at != slot])
                    if ask(rest, *book[slot])[0] == "always":
                        due.append(slot)
            self.check(book, tuple(due))
            found += len(due)
        self.assertGreater(found, 30)


class Breach(BookCase):
    def check(self, book, other, slot):
        before = entries(book), entries(other)
        got = breach(book, other)
        self.assertEqual((entries(book), entries(other)), before)
        if slot is None:
            self.assertIsNone(got)
            return
        self.assertEqual((type(got), len(got), got[0]), (tuple, 2, slot))
        left, right = other[slot]
        self.check_row(book, got[1])
        self.assertEqual(weighed(1, left, 1, right, got[1]), 1)
        self.assertIs(got[1] in other, False)

    def test_none(self):
        book = book_of(4, *CHAIN)
        self.check(book, Book(4), None)
        self.check(book, book, None)
        self.check(Book(4), Book(4), None)
        self.check(Book(1), book_of(1, (5, (1,), 5, (0,))), None)
        self.check(book, book_of(4, (1000, (0, 0, 0, 1), 729, (0, 0, 0, 0)), None, CHAIN[2]), None)

    def test_the_first_slot(self):
        self.check(Book(4), book_of(4, *CHAIN), 0)
        self.check(book_of(1, (3, (0,), 4, (1,))), book_of(1, (2, (1,), 1, (0,))), 0)

    def test_a_later_slot(self):
        book = book_of(4, *CHAIN)
        less = (1000, (0, 0, 0, 1), 728, (0, 0, 0, 0))
        self.check(book, book_of(4, CHAIN[1], None, less, (1, (0, 0, 0, 0), 10, (0, 0, 0, 1))), 2)
        self.check(book, book_of(4, None, None, CHAIN[0], None, None, (11, (0, 0, 0, 1), 9, (0, 0, 1, 0))), 5)
        other = book_of(4, *CHAIN)
        other[4] = finding(9, (1, 0, 0, 0), 10, (0, 1, 0, 0))
        self.check(book, other, 4)

    def test_far_along_a_ray(self):
        self.check(Book(1), book_of(1, (1, (0,), 1000000, (1,))), 0)

    def test_many_books(self):
        slots = {}
        books = [book for book, _ in random_books(143, 120)]
        for one, two in zip(books, books[4:]):
            due = None
            for slot in range(6):
                if two[slot] is not None and self.asked(one, *two[slot]) != "always":
                    due = slot
                    break
            self.check(one, two, due)
            slots[due] = True
        self.assertTrue({None, 0, 1, 2} <= set(slots))

    def test_mismatch(self):
        for many, odd in product((1, 2, 3, 4), repeat=2):
            if many != odd:
                self.refused(Mismatch, breach, Book(many), Book(odd))

    def test_names_of_the_arguments(self):
        self.assertIsNone(breach(book=Book(1), other=Book(1)))
        self.assertEqual(carriers(book=Book(1), left=Length(1, (0,)), right=Length(1, (0,))), [()])
        self.assertEqual(needless(book=Book(1)), ())


if __name__ == "__main__":
    unittest.main()
