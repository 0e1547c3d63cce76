"""Points 19, 20 and 21: stiff, tells and lots."""

import random
import unittest
from itertools import combinations, product

from tests.helper import BookCase, book_of, entries, finding, random_books, turned_by, weighed
from twicewashed.book import Book
from twicewashed.errors import Mismatch
from twicewashed.lengths import Length
from twicewashed.measuring import lots, stiff, tells


def unit(at, shares):
    return tuple(1 if j == at else 0 for j in range(shares))


class MeasuringCase(BookCase):
    def stiff_ones(self, book):
        """The slots and the shares that are stiff, by comparisons whose answers are checked."""
        one = Length(1, (0,) * book.shares)
        held = [(slot, entry) for slot, entry in enumerate(book) if entry is not None]
        slots = tuple(slot for slot, (left, right) in held if self.asked(book, right, left) == "always")
        shares = range(book.shares)
        ones = tuple(j for j in shares if self.asked(book, one, Length(1, unit(j, book.shares))) == "always")
        return slots, ones

    def check_stiff(self, book, due):
        got = stiff(book)
        self.assertEqual(got, due)
        self.assertEqual([type(got), type(got[0]), type(got[1])], [tuple] * 3)

    def measured(self, book, left, right, *lengths):
        """The word that tells returns; what shows it is checked."""
        word, *shown = tells(book, left, right, *lengths)
        slots, ones = self.stiff_ones(book)
        if word == "told":
            formula, = shown
            self.assertEqual((type(formula), len(formula)), (tuple, 4))
            times, measures, findings, shares = formula
            self.check_numbers((times,), 1, 1, 1000)
            self.check_numbers(measures, len(lengths), -1000, 1000)
            self.check_numbers(findings, 6, -1000, 1000)
            self.check_numbers(shares, book.shares, -1000, 1000)
            for slot, number in enumerate(findings):
                self.assertTrue(number == 0 or slot in slots)
            for share, number in enumerate(shares):
                self.assertTrue(number == 0 or share in ones)
            for j in range(book.shares):
                total = shares[j] + sum(number * length.powers[j] for number, length in zip(measures, lengths))
                for number, entry in zip(findings, book):
                    if number != 0:
                        total += number * (entry[0].powers[j] - entry[1].powers[j])
                self.assertEqual(times * (left.powers[j] - right.powers[j]), total)
            return word
        self.assertEqual(word, "untold")
        turn, loose = shown
        self.check_numbers(turn, book.shares, -1000, 1000)
        for length in lengths:
            self.assertEqual(sum(number * power for number, power in zip(turn, length.powers)), 0)
        self.assertNotEqual(turned_by(turn, left, right), 0)
        self.assertIs(type(loose), tuple)
        for row in loose:
            self.check_row(book, row)
        for entry in book:
            if entry is not None and turned_by(turn, *entry) != 0:
                self.assertTrue(any(weighed(1, entry[0], 1, entry[1], row) < 0 for row in loose))
        for j, number in enumerate(turn):
            if number != 0:
                self.assertTrue(any(row[1][j][0] < row[1][j][1] for row in loose))
        return word

    def check_lots(self, book, left, right, menu, due):
        before = list(menu)
        got = lots(book, left, right, menu)
        self.assertEqual(got, due)
        self.assertIs(type(got), list)
        for places in got:
            self.assertIs(type(places), tuple)
        self.assertEqual(menu, before)


class Stiff(MeasuringCase):
    def test_none(self):
        for shares in (1, 2, 3, 4):
            self.check_stiff(Book(shares), ((), ()))
        self.check_stiff(book_of(1, (19, (0,), 20, (1,)), (20, (1,), 20, (0,))), ((), ()))

    def test_without_powers(self):
        self.check_stiff(book_of(2, (5, (1, 1), 5, (1, 1)), (4, (1, 1), 5, (1, 1))), ((0,), ()))

    def test_two_findings_that_turn_each_other_about(self):
        book = book_of(2, None, (3, (1, 0), 2, (0, 2)), None, None, (2, (0, 2), 3, (1, 0)))
        self.check_stiff(book, ((1, 4), ()))
        book[4] = finding(2, (0, 2), 4, (1, 0))
        self.check_stiff(book, ((), ()))

    def test_multiples_and_powers_that_turn_each_other_about(self):
        book = book_of(1, (2, (2,), 1, (0,)), (700000, (0,), 1000000, (1,)), (2, (1,), 4, (2,)))
        self.check_stiff(book, ((), ()))
        book = book_of(2, (4, (2, 0), 2, (0, 1)), (4, (0, 2), 8, (2, 1)), (9, (1, 0), 9, (0, 0)))
        self.check_stiff(book, ((0, 1), ()))

    def test_a_chain_of_three(self):
        chain = (10, (0, 1, 0), 9, (1, 0, 0)), (10, (0, 0, 1), 9, (0, 1, 0))
        self.check_stiff(book_of(3, *chain, (81, (1, 0, 0), 100, (0, 0, 1))), ((0, 1, 2), ()))
        self.check_stiff(book_of(3, *chain, (80, (1, 0, 0), 100, (0, 0, 1))), ((), ()))
        self.check_stiff(book_of(3, *chain, (81, (0, 0, 0), 100, (0, 0, 1))), ((0, 1, 2), (0,)))

    def test_shares(self):
        self.check_stiff(book_of(1, (1, (0,), 1, (1,))), ((0,), (0,)))
        self.check_stiff(book_of(1, (7, (0,), 7, (2,))), ((0,), (0,)))
        self.check_stiff(book_of(3, (1, (0, 0, 0), 1, (1, 0, 2))), ((0,), (0, 2)))
        self.check_stiff(book_of(4, (1, (0, 0, 0, 0), 1, (1, 1, 1, 1))), ((0,), (0, 1, 2, 3)))
        self.check_stiff(book_of(2, (1, (0, 1), 1, (1, 0)), (1, (1, 0), 1, (0, 1))), ((0, 1), ()))

    def test_shares_by_two_findings(self):
        """Half of the first share is at least the second one, which is at least half of the first share's square."""
        book = book_of(2, (2, (0, 1), 1, (1, 0)), (1, (0, 0), 2, (0, 1)))
        self.check_stiff(book, ((0, 1), (0,)))
        book[1] = finding(1, (2, 0), 2, (0, 1))
        self.check_stiff(book, ((), ()))

    def test_a_finding_that_holds_with_equality_at_all_corners_only(self):
        """The only corner is where both shares are 1, but from there rays lead on."""
        self.check_stiff(book_of(2, (1, (1, 0), 1, (0, 1))), ((), ()))
        self.check_stiff(book_of(2, (1, (1, 0), 1, (0, 1)), (1, (0, 2), 1, (1, 0))), ((), ()))

    def test_many_books(self):
        seen = {}
        for book, _ in random_books(19, 120):
            before = entries(book)
            due = self.stiff_ones(book)
            self.check_stiff(book, due)
            self.assertEqual(entries(book), before)
            seen[(len(due[0]) > 0, len(due[1]) > 0)] = True
        self.assertTrue({(False, False), (True, False), (True, True)} <= set(seen), seen)

    def test_behind_changes_of_the_book(self):
        book = book_of(1, (2, (1,), 1, (0,)))
        self.check_stiff(book, ((), ()))
        book.add(*finding(1, (0,), 2, (1,)))
        self.check_stiff(book, ((0, 1), ()))
        book[1] = finding(1, (0,), 3, (1,))
        self.check_stiff(book, ((), ()))
        book.drop(0)
        book[1] = finding(3, (0,), 3, (1,))
        self.check_stiff(book, ((1,), (0,)))


class Tells(MeasuringCase):
    def check(self, book, left, right, lengths, due):
        before = entries(book)
        self.assertEqual(self.measured(book, Length(3, left), Length(4, right), *lengths), due)
        self.assertEqual(self.measured(book, Length(4, right), Length(3, left), *lengths), due)
        self.assertEqual(entries(book), before)

    def test_nothing_measured(self):
        for shares in (1, 2, 3, 4):
            one = (1,) * shares
            self.check(Book(shares), one, one, (), "told")
            self.check(Book(shares), one, (0,) * shares, (), "untold")

    def test_one_length(self):
        self.check(Book(1), (1,), (0,), (Length(7, (1,)),), "told")
        self.check(Book(1), (1,), (0,), (Length(7, (2,)),), "told")
        self.check(Book(1), (2,), (0,), (Length(7, (0,)),), "untold")
        self.check(Book(2), (1, 1), (0, 0), (Length(7, (1, 1)),), "told")
        self.check(Book(2), (1, 0), (0, 2), (Length(7, (1, 1)),), "untold")
        self.check(Book(2), (2, 0), (1, 1), (Length(7, (1, 1)),), "untold")

    def test_two_lengths(self):
        pair = Length(7, (2, 1)), Length(9, (1, 2))
        for left, right in (((1, 0), (0, 0)), ((0, 2), (1, 0)), ((1, 1), (0, 0)), ((2, 0), (0, 2))):
            self.check(Book(2), left, right, pair, "told")
        self.check(Book(3), (0, 0, 1), (0, 0, 0), (Length(7, (1, 1, 1)), Length(7, (1, 1, 0))), "told")
        self.check(Book(3), (0, 1, 0), (0, 0, 0), (Length(7, (1, 1, 1)), Length(7, (1, 1, 0))), "untold")

    def test_five_lengths_and_one_measured_twice(self):
        twice = Length(7, (1, 2, 0, 0))
        many = twice, Length(1, (0, 0, 1, 0)), twice, Length(5, (1, 2, 1, 0)), Length(2, (2, 1, 0, 0))
        self.check(Book(4), (1, 0, 2, 0), (0, 1, 0, 0), many, "told")
        self.check(Book(4), (1, 0, 2, 1), (0, 1, 0, 0), many, "untold")
        self.check(Book(1), (1,), (0,), (Length(1, (2,)),) * 5, "told")
        self.check(Book(2), (1, 0), (0, 0), (Length(7, (1, 2)),) * 2, "untold")

    def test_large_numbers(self):
        lengths = Length(1, (2, 1, 0, 0)), Length(1, (0, 2, 1, 0)), Length(1, (0, 0, 2, 1)), Length(1, (1, 0, 0, 2))
        self.check(Book(4), (2, 0, 0, 0), (0, 2, 1, 2), lengths, "told")
        self.check(Book(4), (2, 0, 0, 0), (0, 2, 1, 2), lengths[:3], "untold")
        lengths = Length(1, (2, 2, 0, 1)), Length(1, (0, 2, 2, 1)), Length(1, (2, 0, 2, 1))
        self.check(Book(4), (2, 0, 0, 2), (0, 2, 1, 0), lengths, "untold")

    def test_with_stiff_findings(self):
        book = book_of(2, (3, (1, 0), 2, (0, 2)), None, (2, (0, 2), 3, (1, 0)))
        self.check(book, (1, 0), (0, 2), (), "told")
        self.check(book, (1, 0), (0, 0), (), "untold")
        self.check(book, (1, 0), (0, 0), (Length(5, (0, 1)),), "told")
        self.check(book, (0, 1), (0, 0), (Length(5, (1, 0)),), "told")
        book.drop(2)
        self.check(book, (1, 0), (0, 2), (), "untold")
        self.check(book, (1, 0), (0, 0), (Length(5, (0, 1)),), "untold")

    def test_with_stiff_shares(self):
        book = book_of(3, (1, (0, 0, 0), 1, (1, 0, 2)))
        self.check(book, (1, 0, 0), (0, 0, 0), (), "told")
        self.check(book, (1, 0, 0), (0, 0, 1), (), "told")
        self.check(book, (1, 1, 0), (0, 0, 1), (), "untold")
        self.check(book, (1, 1, 0), (0, 0, 1), (Length(1, (1, 2, 1)),), "told")

    def test_findings_that_are_not_stiff_tell_nothing(self):
        book = book_of(1, (999998, (0,), 1000000, (1,)), (1000000, (1,), 999999, (0,)), (3, (1,), 3, (1,)))
        self.check(book, (1,), (0,), (), "untold")
        book[0] = finding(999999, (0,), 1000000, (1,))
        self.check(book, (1,), (0,), (), "told")

    def test_loose_rows_off_the_only_corner(self):
        """At the only corner both shares are 1 and equal; rows at which they are not lie along rays."""
        self.check(book_of(2, (1, (1, 0), 1, (0, 1))), (1, 0), (0, 0), (), "untold")
        self.check(book_of(2, (1, (1, 0), 1, (0, 1))), (1, 0), (0, 0), (Length(1, (0, 1)),), "untold")
        self.check(book_of(2, (1, (1, 0), 1, (0, 1)), (1, (0, 2), 1, (1, 0))), (1, 0), (0, 1), (), "untold")

    def test_many_books(self):
        chance = random.Random(20)
        words = {"told": 0, "untold": 0}
        for book, make in random_books(20, 120):
            before = entries(book)
            lengths = [make() for _ in range(chance.randint(0, 3))]
            words[self.measured(book, make(), make(), *lengths)] += 1
            self.assertEqual(entries(book), before)
        self.assertGreater(min(words.values()), 30)

    def test_mismatch_for_each_argument(self):
        for many, odd in product((1, 2, 3, 4), repeat=2):
            if many != odd:
                length, other = Length(5, (1,) * many), Length(5, (1,) * odd)
                self.refused(Mismatch, tells, Book(odd), length, length)
                self.refused(Mismatch, tells, Book(odd), length, length, length)
                self.refused(Mismatch, tells, Book(many), other, length)
                self.refused(Mismatch, tells, Book(many), length, other, length)
                for at in range(5):
                    measured = [length] * 5
                    measured[at] = other
                    self.refused(Mismatch, tells, Book(many), length, length, *measured)


class Lots(MeasuringCase):
    def tried(self, book, left, right, menu):
        """The lots, by asking for each set of places."""
        for many in range(len(menu) + 1):
            sets = combinations(range(len(menu)), many)
            found = [s for s in sets if self.measured(book, left, right, *[menu[k] for k in s]) == "told"]
            if found:
                return found
        return []

    def test_the_example(self):
        menu = [Length(7, (1, 0)), Length(9, (0, 1)), Length(2, (1, 1))]
        self.check_lots(Book(2), Length(5, (1, 1)), Length(4, (0, 0)), menu, [(2,)])

    def test_nothing_must_be_measured(self):
        menu = [Length(7, (1, 0)), Length(9, (0, 1))]
        self.check_lots(Book(2), Length(5, (1, 1)), Length(4, (1, 1)), menu, [()])
        book = book_of(2, (3, (1, 0), 2, (0, 2)), (2, (0, 2), 3, (1, 0)))
        self.check_lots(book, Length(5, (2, 0)), Length(5, (1, 2)), menu, [()])
        self.check_lots(book_of(1, (1, (0,), 1, (1,))), Length(5, (2,)), Length(5, (0,)), [], [()])

    def test_an_empty_menu(self):
        self.check_lots(Book(1), Length(5, (1,)), Length(4, (1,)), [], [()])
        self.check_lots(Book(1), Length(5, (1,)), Length(4, (0,)), [], [])

    def test_no_lot(self):
        menu = [Length(7, (1, 0, 0)), Length(9, (0, 1, 0)), Length(2, (1, 1, 0)), Length(3, (2, 1, 0))]
        self.check_lots(Book(3), Length(5, (0, 0, 1)), Length(5, (0, 0, 0)), menu, [])
        self.check_lots(Book(1), Length(5, (1,)), Length(5, (0,)), [Length(3, (0,))] * 5, [])

    def test_several_lots(self):
        menu = [Length(7, (1, 0)), Length(9, (0, 1)), Length(2, (1, 1)), Length(2, (2, 2)), Length(3, (2, 1))]
        self.check_lots(Book(2), Length(5, (1, 1)), Length(4, (0, 0)), menu, [(2,), (3,)])
        due = [pair for pair in combinations(range(5), 2) if pair != (2, 3)]
        self.check_lots(Book(2), Length(5, (2, 0)), Length(4, (0, 1)), menu, due)
        self.check_lots(Book(1), Length(5, (2,)), Length(4, (0,)), [Length(3, (1,))] * 5, [(k,) for k in range(5)])

    def test_three_and_four_places(self):
        menu = [Length(1, unit(j, 4)) for j in range(4)] + [Length(1, (1, 1, 0, 0))]
        self.check_lots(Book(4), Length(1, (1, 1, 1, 1)), Length(1, (0, 0, 0, 0)), menu, [(2, 3, 4)])
        self.check_lots(Book(4), Length(1, (1, 2, 1, 1)), Length(1, (0, 0, 0, 0)), menu, [
            (0, 1, 2, 3), (0, 2, 3, 4), (1, 2, 3, 4),
        ])

    def test_with_stiff_findings(self):
        book = book_of(2, (3, (1, 0), 2, (0, 2)), (2, (0, 2), 3, (1, 0)))
        menu = [Length(7, (1, 2)), Length(9, (0, 1)), Length(2, (0, 0))]
        self.check_lots(book, Length(5, (1, 0)), Length(5, (0, 0)), menu, [(0,), (1,)])
        book.drop(0)
        self.check_lots(book, Length(5, (1, 0)), Length(5, (0, 0)), menu, [(0, 1)])

    def test_many_books(self):
        chance = random.Random(21)
        sizes = {}
        for book, make in random_books(21, 40):
            before = entries(book)
            menu = [make() for _ in range(chance.randint(1, 4))]
            left, right = make(), make()
            due = self.tried(book, left, right, menu)
            self.check_lots(book, left, right, menu, due)
            sizes[len(due[0]) if due else None] = True
            self.assertEqual(entries(book), before)
        self.assertTrue({None, 0, 1, 2} <= set(sizes), sizes)

    def test_the_menu_is_not_kept_and_each_list_is_new(self):
        menu = [Length(7, (1, 0)), Length(9, (0, 1))]
        book = Book(2)
        got = lots(book, Length(5, (1, 1)), Length(5, (0, 0)), menu)
        got.append("spoilt")
        self.check_lots(book, Length(5, (1, 1)), Length(5, (0, 0)), menu, [(0, 1)])
        menu.append(Length(1, (1, 1)))
        self.check_lots(book, Length(5, (1, 1)), Length(5, (0, 0)), menu, [(2,)])

    def test_mismatch_for_each_argument(self):
        for many, odd in product((1, 2, 3, 4), repeat=2):
            if many != odd:
                length, other = Length(5, (1,) * many), Length(5, (1,) * odd)
                self.refused(Mismatch, lots, Book(odd), length, length, [])
                self.refused(Mismatch, lots, Book(odd), length, length, [length])
                self.refused(Mismatch, lots, Book(many), other, length, [])
                self.refused(Mismatch, lots, Book(many), length, other, [length])
                for at in range(5):
                    menu = [length] * 5
                    menu[at] = other
                    self.refused(Mismatch, lots, Book(many), length, length, menu)

    def test_names_of_the_arguments(self):
        length = Length(5, (1,))
        self.assertEqual(lots(book=Book(1), left=length, right=length, menu=[]), [()])
        self.assertEqual(tells(book=Book(1), left=length, right=length)[0], "told")
        self.assertEqual(stiff(book=Book(1)), ((), ()))


if __name__ == "__main__":
    unittest.main()
