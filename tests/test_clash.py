"""Point 10: findings that would leave no fitting row."""

import random
import unittest

from tests.helper import BookCase, book_of, copied, entries, finding, random_books
from twicewashed.book import Book
from twicewashed.errors import Clash
from twicewashed.lengths import Length


def support(error):
    """How many findings the error needs."""
    return len([number for number in error.findings if number > 0])


class Alone(BookCase):
    def test_the_example(self):
        self.clashed(Book(1), None, *finding(3, (0,), 2, (1,)))

    def test_without_any_power(self):
        for shares in (1, 2, 3, 4):
            none = (0,) * shares
            for powers in (none, (2,) * shares, (1,) * shares):
                for m, n in ((2, 1), (1000000, 1), (1000000, 999999)):
                    self.clashed(Book(shares), None, *finding(m, powers, n, powers))
                Book(shares).add(*finding(5, powers, 5, powers))

    def test_greater_for_all_shares(self):
        for shares in (1, 2, 3, 4):
            none = (0,) * shares
            for at in range(shares):
                for power in (1, 2):
                    powers = tuple(power if j == at else 0 for j in range(shares))
                    self.clashed(Book(shares), None, *finding(1000000, none, 999999, powers))
                    Book(shares).add(*finding(1000000, none, 1000000, powers))
                    Book(shares).add(*finding(1000000, powers, 1, none))
            self.clashed(Book(shares), None, *finding(7, none, 6, (2,) * shares))

    def test_in_each_slot(self):
        for slot in range(6):
            error = self.clashed(Book(1), slot, *finding(3, (0,), 2, (1,)))
            self.assertEqual([number > 0 for number in error.findings], [at == slot for at in range(6)])

    def test_where_a_share_helps(self):
        """3 is at most 4 times share 0, but share 0 has a power less than 0 in the quotient of the others."""
        book = Book(2)
        book.add(*finding(3, (0, 1), 2, (1, 0)))
        self.clashed(Book(2), None, *finding(3, (0, 0), 2, (1, 0)))


class WithOthers(BookCase):
    def test_with_one_other(self):
        for slot in (1, 5):
            book = book_of(1, (2, (1,), 1, (0,)))
            error = self.clashed(book, slot, *finding(2, (0,), 3, (1,)))
            self.assertEqual(support(error), 2)
            book[slot] = finding(1, (0,), 2, (1,))

    def test_by_a_hair(self):
        book = book_of(1, (999999, (2,), 999998, (0,)))
        self.clashed(book, None, *finding(999999, (0,), 1000000, (2,)))
        book = book_of(1, (1000000, (1,), 999999, (0,)))
        self.clashed(book, None, *finding(1, (1,), 1, (2,)))
        book.add(*finding(999999, (1,), 1000000, (2,)))
        self.clashed(book, None, *finding(1, (0,), 1, (1,)))
        book.add(*finding(999999, (0,), 1000000, (1,)))

    def test_square_against_plain(self):
        """665857/470832 is a little more than the root of 2, 1393/985 a little less."""
        book = book_of(1, (2, (2,), 1, (0,)))
        self.clashed(book, None, *finding(985, (0,), 1392, (1,)))
        self.clashed(book, None, *finding(470832 + 1, (0,), 665857, (1,)))
        book.add(*finding(470832, (0,), 665857, (1,)))
        book = book_of(1, (1, (0,), 2, (2,)))
        self.clashed(book, None, *finding(665857, (1,), 470832, (0,)))
        book.add(*finding(1393, (1,), 985, (0,)))

    def test_with_several_others(self):
        """Each share is less than 9/10 of the one before it, and the last one is at least 3/4."""
        book = book_of(
            4, (10, (0, 1, 0, 0), 9, (1, 0, 0, 0)), (10, (0, 0, 1, 0), 9, (0, 1, 0, 0)), None,
            (10, (0, 0, 0, 1), 9, (0, 0, 1, 0)),
        )
        error = self.clashed(book, None, *finding(3, (0, 0, 0, 0), 4, (0, 0, 0, 1)))
        self.assertEqual(error.slot, 2)
        self.assertEqual([number > 0 for number in error.findings], [True, True, True, True, False, False])
        book.add(*finding(729, (0, 0, 0, 0), 1000, (0, 0, 0, 1)))

    def test_with_three_others_and_powers_that_differ(self):
        book = book_of(3, (2, (2, 0, 0), 1, (0, 1, 0)), (3, (0, 2, 0), 1, (0, 0, 1)), (5, (0, 0, 2), 1, (1, 0, 0)))
        # x0 ** 2 <= x1 / 2, x1 ** 2 <= x2 / 3, x2 ** 2 <= x0 / 5: x0 ** 7 is at most 1 / (16 * 9 * 5).
        self.clashed(book, None, *finding(10, (0, 0, 0), 25, (1, 0, 0)))
        book.add(*finding(10, (0, 0, 0), 26, (1, 0, 0)))

    def test_replacing_that_clashes_only_with_the_others(self):
        book = book_of(1, (2, (1,), 1, (0,)), (1, (0,), 3, (1,)))
        error = self.clashed(book, 1, *finding(3, (0,), 4, (1,)))
        self.assertEqual(error.slot, 1)

    def test_replacing_that_clashes_only_with_what_it_replaces(self):
        book = book_of(1, (2, (1,), 1, (0,)), (1, (0,), 3, (1,)))
        book[0] = finding(3, (0,), 4, (1,))
        self.assertEqual(entries(book)[2][0], ((3, (0,)), (4, (1,))))

    def test_again_behind_a_drop(self):
        book = book_of(1, (2, (1,), 1, (0,)))
        self.clashed(book, None, *finding(3, (0,), 4, (1,)))
        book.drop(0)
        self.assertEqual(book.add(*finding(3, (0,), 4, (1,))), 0)
        self.clashed(book, None, *finding(2, (1,), 1, (0,)))

    def test_the_last_empty_slot(self):
        easy = (1, (2,), 2, (0,))
        book = book_of(1, easy, (2, (1,), 1, (0,)), easy, easy, easy)
        error = self.clashed(book, None, *finding(3, (0,), 4, (1,)))
        self.assertEqual(error.slot, 5)

    def test_many_findings(self):
        """Each finding is refused with a proof or leaves a fitting row."""
        chance = random.Random(10)
        sizes = {0: 0}
        for book, make in random_books(10, 100):
            for _ in range(4):
                left, right = make(), make()
                slot = chance.choice([None, chance.randrange(6)])
                if slot is None and book.held == 6:
                    continue
                draft = copied(book)
                try:
                    if slot is None:
                        draft.add(left, right)
                    else:
                        draft[slot] = (left, right)
                except Clash:
                    size = support(self.clashed(book, slot, left, right))
                else:
                    self.check_row(draft, draft.example())
                    size = 0
                sizes[size] = sizes.get(size, 0) + 1
        self.assertGreater(sizes[0], 50)
        self.assertGreater(sizes[1], 20)
        self.assertGreater(sizes[2], 20)

    def test_opposite_findings(self):
        """Behind a finding, the opposite one is accepted if it leaves equality, and refused with a smaller count."""
        for shares in (1, 2, 3, 4):
            left = Length(500, (2, 1, 0, 1)[:shares])
            right = Length(300, (0, 0, 2, 0)[:shares])
            book = Book(shares)
            book.add(left, right)
            book.add(right, left)
            book.drop(1)
            self.clashed(book, None, right, Length(499, left.powers))
            self.assertEqual(book.add(right, left), 1)


if __name__ == "__main__":
    unittest.main()
