"""Points 16 and 17: seams and judge."""

import random
import unittest
from itertools import product

from tests.helper import SPOILT, BookCase, book_of, closes, entries, finding, random_books
from twicewashed.book import Book
from twicewashed.errors import BadEase, BadShares, Mismatch
from twicewashed.lengths import Length
from twicewashed.seams import Seam, judge

BAD_EASES = (
    (1, 0), (0, 0), (1, -1), (-1, -1), (0, -1), (-1, -2), (1000, -5), (20, 21), (0, 1), (-1, 1), (999, 1000),
    (1001, 1), (1001, 1000), (1001, 1001), (1000, 1001), (10 ** 30, 1), (10 ** 30, 10 ** 30), (-10 ** 30, 1),
)
GOOD_EASES = ((1, 1), (2, 1), (21, 20), (1000, 1), (1000, 999), (1000, 1000), (20, 20))
HALF = (1, ((1, 2),))


def seam_of(m, p, n, q, ease=(1, 1)):
    return Seam(Length(m, p), Length(n, q), ease=ease)


class Made(BookCase):
    def test_attributes(self):
        left, right = Length(3, (1, 0)), Length(4, (0, 2))
        seam = Seam(left, right)
        self.assertEqual((seam.left, seam.right, seam.ease), (left, right, (1, 1)))
        seam = Seam(left=left, right=right, ease=(21, 20))
        self.assertEqual((seam.left, seam.right, seam.ease), (left, right, (21, 20)))

    def test_the_ease_is_as_it_was_passed(self):
        for ease in GOOD_EASES:
            seam = seam_of(3, (1,), 4, (0,), ease=ease)
            self.assertEqual(seam.ease, ease)
            self.assertIs(type(seam.ease), tuple)

    def test_the_ease_is_passed_by_keyword(self):
        with self.assertRaises(TypeError):
            Seam(Length(3, (1,)), Length(4, (0,)), (2, 1))

    def test_bad_eases(self):
        for ease in BAD_EASES:
            self.refused(BadEase, Seam, Length(3, (1,)), Length(4, (0,)), ease=ease)

    def test_mismatch(self):
        for one, two in product((1, 2, 3, 4), repeat=2):
            if one != two:
                self.refused(Mismatch, Seam, Length(3, (1,) * one), Length(3, (1,) * two))

    def test_mismatch_comes_before_a_bad_ease(self):
        for ease in BAD_EASES:
            self.refused(Mismatch, Seam, Length(3, (1,)), Length(4, (0, 0)), ease=ease)


class Ease(BookCase):
    def test_assigned(self):
        seam = seam_of(3, (1,), 4, (0,))
        for ease in GOOD_EASES:
            seam.ease = ease
            self.assertEqual(seam.ease, ease)
        self.assertEqual((seam.left, seam.right), (Length(3, (1,)), Length(4, (0,))))

    def test_changed(self):
        seam = seam_of(3, (1,), 4, (0,))
        for ease in GOOD_EASES:
            self.assertIsNone(seam.change(ease))
            self.assertEqual(seam.ease, ease)
        self.assertIsNone(seam.change(ease=(3, 2)))
        self.assertEqual(seam.ease, (3, 2))

    def test_refused(self):
        for before in ((1, 1), (21, 20)):
            seam = seam_of(3, (1,), 4, (0,), ease=before)
            for ease in BAD_EASES:
                self.refused(BadEase, seam.change, ease)
                self.assertEqual(seam.ease, before)
                with self.assertRaises(BadEase) as caught:
                    seam.ease = ease
                self.assertIs(type(caught.exception), BadEase)
                self.assertEqual(seam.ease, before)

    def test_two_seams_are_apart(self):
        one, two = seam_of(3, (1,), 4, (0,)), seam_of(3, (1,), 4, (0,))
        one.ease = (2, 1)
        self.assertEqual((one.ease, two.ease), ((2, 1), (1, 1)))

    def test_the_seam_closes_by_its_present_ease(self):
        seam = seam_of(4, (1,), 3, (0,))
        self.assertIs(seam(HALF), False)
        seam.ease = (3, 2)
        self.assertIs(seam(HALF), True)
        seam.change((4, 3))
        self.assertIs(seam(HALF), False)
        self.assertEqual(judge(Book(1), seam)[0], "open")


class Called(BookCase):
    def test_just_closing_and_just_not(self):
        for count, answer in ((21, True), (22, False), (20, True), (19, False)):
            self.assertIs(seam_of(2 * count, (1,), 20, (0,), ease=(21, 20))(HALF), answer, count)
        for count, answer in ((21, True), (22, False), (20, True), (19, False)):
            self.assertIs(seam_of(20, (0,), 2 * count, (1,), ease=(21, 20))(HALF), answer, count)
        self.assertIs(seam_of(400, (0,), 420, (0,), ease=(21, 20))(HALF), True)
        self.assertIs(seam_of(400, (0,), 421, (0,), ease=(21, 20))(HALF), False)
        self.assertIs(seam_of(421, (0,), 400, (0,), ease=(21, 20))(HALF), False)

    def test_without_ease_both_sides_must_be_equal(self):
        for count, answer in ((9, False), (10, True), (11, False)):
            self.assertIs(seam_of(count, (1,), 5, (0,))(HALF), answer)
            self.assertIs(seam_of(5, (0,), count, (1,))(HALF), answer)

    def test_at_roots(self):
        root = (2, ((1, 2),))
        self.assertIs(seam_of(10, (1,), 7, (0,))(root), False)
        self.assertIs(seam_of(10, (1,), 7, (0,), ease=(101, 100))(root), False)
        self.assertIs(seam_of(10, (1,), 7, (0,), ease=(102, 100))(root), True)
        self.assertIs(seam_of(2, (2,), 1, (0,))(root), True)

    def test_the_largest_numbers(self):
        row = (1, ((1, 1000),))
        for count, answer in ((1000000, True), (999999, True)):
            self.assertIs(seam_of(count, (1,), 1000000, (0,), ease=(1000, 1))(row), count == 1000000)
            self.assertIs(seam_of(1000000, (0,), count, (1,), ease=(1000, 1))(row), count == 1000000)
            self.assertIs(seam_of(count, (0,), 1000000, (0,), ease=(1000, 999))(row), answer)

    def test_many_seams(self):
        chance = random.Random(16)
        answers = {True: 0, False: 0}
        for _ in range(300):
            shares = chance.randint(1, 4)
            lengths = [Length(chance.randint(1, 9), [chance.randint(0, 2) for _ in range(shares)]) for _ in range(2)]
            q = chance.randint(1, 9)
            seam = Seam(*lengths, ease=(q + chance.randint(0, 9), q))
            row = (chance.randint(1, 3), tuple([(chance.randint(5, 9), chance.randint(9, 12)) for _ in range(shares)]))
            self.assertIs(seam(row), closes(seam, row))
            answers[seam(row)] += 1
        self.assertGreater(min(answers.values()), 50)

    def test_spoilt_rows(self):
        for many in (1, 2, 3, 4):
            seam = seam_of(3, (1,) * many, 4, (0,) * many)
            for row in SPOILT:
                self.refused(BadShares, seam, row)

    def test_mismatch(self):
        for many, odd in product((1, 2, 3, 4), repeat=2):
            if many != odd:
                self.refused(Mismatch, seam_of(3, (1,) * many, 4, (0,) * many), (1, ((1, 2),) * odd))


class Judged(BookCase):
    def check(self, book, seam, due):
        before = entries(book), seam.ease
        self.assertEqual(self.judged(book, seam), due)
        self.assertEqual((entries(book), seam.ease), before)
        # The other way round, the other side is too long.
        turned = Seam(seam.right, seam.left, ease=seam.ease)
        self.assertEqual(self.judged(book, turned), {"left": "right", "right": "left"}.get(due, due))

    def test_without_findings(self):
        for shares in (1, 2, 3, 4):
            none, one = (0,) * shares, (1,) * shares
            self.check(Book(shares), seam_of(20, none, 21, none, ease=(21, 20)), "closes")
            self.check(Book(shares), seam_of(20, one, 22, one, ease=(21, 20)), "right")
            self.check(Book(shares), seam_of(20, none, 21, one, ease=(21, 20)), "open")
            self.check(Book(shares), seam_of(22, none, 20, one, ease=(21, 20)), "left")
            self.check(Book(shares), seam_of(21, none, 20, one, ease=(21, 20)), "open")

    def test_at_least_19_of_20(self):
        book = book_of(1, (19, (0,), 20, (1,)))
        for count, due in (
            (36, "right"), (37, "open"), (38, "open"), (39, "closes"), (40, "open"), (41, "open"), (42, "open"),
            (43, "left"),
        ):
            self.check(book, seam_of(count, (1,), 38, (0,), ease=(21, 20)), due)

    def test_closes_by_a_hair(self):
        book = book_of(1, (999999, (0,), 1000000, (1,)))
        self.check(book, seam_of(1000000, (1,), 1000000, (0,), ease=(1000, 999)), "closes")
        self.check(book, seam_of(1000000, (1,), 999000, (0,), ease=(1000, 999)), "closes")
        self.check(book, seam_of(1000000, (1,), 998999, (0,), ease=(1000, 999)), "left")
        book[0] = finding(99, (0,), 100, (1,))
        self.check(book, seam_of(1000000, (1,), 998999, (0,), ease=(1000, 999)), "open")
        book = book_of(1, (19, (0,), 20, (1,)), (20, (1,), 19, (0,)))
        self.check(book, seam_of(400, (1,), 399, (0,), ease=(21, 20)), "closes")
        self.check(book, seam_of(400, (1,), 400, (0,), ease=(20, 19)), "closes")
        self.check(book, seam_of(400, (1,), 401, (0,), ease=(20, 19)), "right")

    def test_without_ease(self):
        book = book_of(2, (3, (1, 0), 2, (0, 2)), (2, (0, 2), 3, (1, 0)))
        self.check(book, seam_of(3, (2, 0), 2, (1, 2)), "closes")
        self.check(book, seam_of(4, (2, 0), 2, (1, 2)), "left")
        self.check(book, seam_of(3, (2, 0), 3, (1, 2)), "right")
        self.check(book, seam_of(3, (1, 0), 2, (0, 1)), "open")
        self.check(Book(1), seam_of(5, (1,), 5, (1,)), "closes")
        self.check(Book(1), seam_of(5, (1,), 5, (0,)), "open")
        self.check(Book(1), seam_of(5, (0,), 4, (1,)), "left")

    def test_the_square_of_the_share_is_a_half(self):
        book = book_of(1, (2, (2,), 1, (0,)), (1, (0,), 2, (2,)))
        self.check(book, seam_of(10, (1,), 7, (0,)), "left")
        self.check(book, seam_of(7, (1,), 5, (0,)), "right")
        self.check(book, seam_of(10, (1,), 7, (0,), ease=(101, 100)), "left")
        self.check(book, seam_of(10, (1,), 7, (0,), ease=(1000, 989)), "closes")
        self.check(book, seam_of(7, (1,), 5, (0,), ease=(100, 99)), "right")
        self.check(book, seam_of(7, (1,), 5, (0,), ease=(1000, 989)), "closes")

    def test_open_where_only_one_side_can_be_too_long(self):
        book = book_of(1, (19, (0,), 20, (1,)))
        self.check(book, seam_of(40, (1,), 38, (0,), ease=(21, 20)), "open")
        self.check(book, seam_of(38, (1,), 38, (0,), ease=(21, 20)), "open")

    def test_open_where_each_side_can_be_too_long(self):
        self.check(Book(2), seam_of(1000000, (1, 0), 1, (0, 1)), "open")
        self.check(Book(2), seam_of(1, (1, 0), 1000000, (0, 2), ease=(1000, 1)), "open")
        book = book_of(3, (1, (0, 2, 0), 1, (1, 0, 0)), (1, (1, 0, 0), 1, (0, 1, 0)))
        self.check(book, seam_of(999, (2, 0, 1), 1000, (1, 1, 2)), "open")

    def test_closing_at_one_value_only(self):
        book = book_of(1, (2, (1,), 1, (0,)))
        self.check(book, seam_of(4, (1,), 2, (0,)), "open")
        self.check(book, seam_of(4, (1,), 3, (0,), ease=(3, 2)), "open")
        self.check(book, seam_of(4, (1,), 3, (0,), ease=(1000, 667)), "right")

    def test_many_seams(self):
        chance = random.Random(17)
        words = {"closes": 0, "left": 0, "right": 0, "open": 0}
        for book, make in random_books(17, 200):
            q = chance.choice((1, 2, 20, 997))
            ease = (q + chance.choice((0, 1, 3)), q)
            left, right = make(), make()
            self.check(book, Seam(left, right, ease=ease), self.judged(book, Seam(left, right, ease=ease)))
            words[self.judged(book, Seam(left, right, ease=ease))] += 1
            for entry in book:
                if entry is not None:
                    words[self.judged(book, Seam(*entry, ease=ease))] += 1
        self.assertGreater(min(words.values()), 10, words)

    def test_behind_changes_of_the_book(self):
        seam = seam_of(40, (1,), 38, (0,), ease=(21, 20))
        book = Book(1)
        self.check(book, seam, "open")
        book.add(*finding(20, (1,), 19, (0,)))
        book.add(*finding(19, (0,), 20, (1,)))
        self.check(book, seam, "closes")
        book[1] = finding(1, (0,), 2, (1,))
        self.check(book, seam, "open")
        book[0] = finding(100, (1,), 91, (0,))
        self.check(book, seam, "open")
        book[0] = finding(100, (1,), 90, (0,))
        self.check(book, seam, "right")

    def test_mismatch(self):
        for many, odd in product((1, 2, 3, 4), repeat=2):
            if many != odd:
                self.refused(Mismatch, judge, Book(many), seam_of(3, (1,) * odd, 3, (1,) * odd))

    def test_names_of_the_arguments(self):
        self.assertEqual(judge(book=Book(1), seam=seam_of(5, (0,), 5, (0,)))[0], "closes")


if __name__ == "__main__":
    unittest.main()
