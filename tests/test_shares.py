"""Points 1 and 2: rows of shares and weigh."""

import unittest
from fractions import Fraction
from itertools import product

from twicewashed.errors import BadShares, Mismatch
from twicewashed.lengths import Length
from twicewashed.shares import weigh

ROOTS = (1, 2, 3, 12, 999, 1000)


def expected(left, right, row):
    """The answer by another way: the quotient of the lengths to the power of the root, as one fraction."""
    root, fractions = row
    quotient = Fraction(left.count, right.count) ** root
    for mine, its, (top, bottom) in zip(left.powers, right.powers, fractions):
        quotient *= Fraction(top, bottom) ** (mine - its)
    return (quotient > 1) - (quotient < 1)


class Weighed(unittest.TestCase):
    def check(self, left, right, row, answer):
        """The answer, and the opposite one if the lengths change places."""
        for told, due in ((weigh(left, right, row), answer), (weigh(right, left, row), -answer)):
            self.assertEqual(told, due)
            self.assertIs(type(told), int)

    def test_at_shares_that_are_1(self):
        for root in ROOTS:
            for bottom in (1, 7, 10 ** 40):
                row = (root, ((bottom, bottom),) * 2)
                with self.subTest(root=root, bottom=bottom):
                    self.check(Length(5, (0, 2)), Length(5, (1, 0)), row, 0)
                    self.check(Length(4, (0, 0)), Length(5, (2, 2)), row, -1)
                    self.check(Length(1000000, (0, 0)), Length(999999, (2, 2)), row, 1)

    def test_small_numbers_against_fractions(self):
        powers = ((0, 0), (0, 1), (1, 0), (2, 1), (0, 2), (2, 2))
        for root, one, two in product((1, 2, 3), ((1, 2), (2, 3), (1, 1)), ((1, 4), (4, 9), (3, 4))):
            row = (root, (one, two))
            for (m, n), p, q in product(((1, 2), (2, 3), (3, 3), (9, 4)), powers, powers):
                left = Length(m, p)
                right = Length(n, q)
                self.check(left, right, row, expected(left, right, row))

    def test_four_shares_against_fractions(self):
        rows = ((1, ((1, 2), (2, 3), (3, 4), (4, 5))), (12, ((1, 2), (5, 9), (8, 9), (1, 1))))
        powers = ((0, 0, 0, 0), (1, 0, 2, 0), (0, 1, 0, 2), (2, 2, 2, 2), (1, 1, 0, 0), (0, 0, 1, 1))
        for row, p, q in product(rows, powers, powers):
            for m, n in ((1, 1), (2, 5), (5, 3)):
                left = Length(m, p)
                right = Length(n, q)
                self.check(left, right, row, expected(left, right, row))

    def test_equal_and_nearly_equal_at_each_root(self):
        """The share is 1/2; a change of the fraction by the least step makes it more or less."""
        for root in ROOTS:
            for power in (1, 2):
                left = Length(2 ** power * 3, (power,))
                right = Length(3, (0,))
                scale = 10 ** 50
                with self.subTest(root=root, power=power):
                    self.check(left, right, (root, ((1, 2 ** root),)), 0)
                    self.check(left, right, (root, ((scale, 2 ** root * scale),)), 0)
                    self.check(left, right, (root, ((scale + 1, 2 ** root * scale),)), 1)
                    self.check(left, right, (root, ((scale - 1, 2 ** root * scale),)), -1)
                    self.check(left, right, (root, ((scale, 2 ** root * scale + 1),)), -1)
                    self.check(left, right, (root, ((scale, 2 ** root * scale - 1),)), 1)

    def test_nearly_equal_counts_at_each_root(self):
        """The share is 999999/1000000, to be told from its neighbours."""
        for root in ROOTS:
            row = (root, ((999999 ** root, 1000000 ** root),))
            with self.subTest(root=root):
                self.check(Length(1000000, (1,)), Length(999999, (0,)), row, 0)
                self.check(Length(999999, (1,)), Length(999998, (0,)), row, 1)
                self.check(Length(999999, (1,)), Length(999999, (0,)), row, -1)
                self.check(Length(1000000, (2,)), Length(999998, (0,)), row, 1)

    def test_roots_that_are_not_whole(self):
        """The share is the root of 1/2: 7/10 is less than it, and 5/7 is greater."""
        row = (2, ((1, 2),))
        self.check(Length(7, (0,)), Length(10, (1,)), row, -1)
        self.check(Length(5, (0,)), Length(7, (1,)), row, 1)
        self.check(Length(665857, (1,)), Length(470832, (0,)), row, 1)
        self.check(Length(470832 * 2, (1,)), Length(665857, (0,)), row, -1)
        twelfth = (12, ((1, 2),))
        self.check(Length(943874, (0,)), Length(1000000, (1,)), twelfth, -1)
        self.check(Length(943875, (0,)), Length(1000000, (1,)), twelfth, 1)

    def test_root_matters(self):
        left = Length(3, (1,))
        right = Length(2, (0,))
        answers = [weigh(left, right, (root, ((1, 2),))) for root in (1, 2, 12, 999, 1000)]
        self.assertEqual(answers, [-1, 1, 1, 1, 1])
        answers = [weigh(left, right, (root, ((2 ** 999, 3 ** 999),))) for root in (998, 999, 1000)]
        self.assertEqual(answers, [-1, 0, 1])

    def test_the_same_row_written_in_several_ways(self):
        half = [(1, 2), (3, 6), (500, 1000), (7 ** 500, 2 * 7 ** 500)]
        rows = [(1, (pair,)) for pair in half] + [(2, ((1, 4),)), (2, ((25, 100),))]
        rows += [(root, ((1, 2 ** root),)) for root in (3, 12, 999, 1000)]
        for m, n in ((2, 1), (3, 1), (1, 1), (999999, 500000), (1000000, 500000), (4, 1), (5, 1)):
            for power in (1, 2):
                left = Length(m, (power,))
                right = Length(n, (0,))
                answer = expected(left, right, (1, ((1, 2),)))
                for row in rows:
                    self.check(left, right, row, answer)

    def test_each_share_belongs_to_its_own_power(self):
        halves = ((1, 1), (1, 2), (1, 3), (1, 5))
        for place, (top, bottom) in enumerate(halves):
            powers = tuple(1 if j == place else 0 for j in range(4))
            self.check(Length(bottom, powers), Length(top, (0, 0, 0, 0)), (1, halves), 0)
            powers = tuple(2 if j == place else 0 for j in range(4))
            self.check(Length(bottom * bottom, powers), Length(1, (0, 0, 0, 0)), (1, halves), 0)

    def test_powers_on_both_sides(self):
        row = (2, ((1, 4), (1, 9)))
        self.check(Length(3, (0, 2)), Length(2, (1, 1)), row, 0)
        self.check(Length(2, (2, 0)), Length(1, (1, 0)), row, 0)
        self.check(Length(9, (2, 2)), Length(4, (2, 2)), row, 1)
        self.check(Length(9, (0, 2)), Length(4, (2, 0)), row, 0)

    def test_names_of_the_arguments(self):
        self.assertEqual(weigh(left=Length(1, (0,)), right=Length(2, (0,)), shares=(1, ((1, 1),))), -1)


class LargeNumbers(unittest.TestCase):
    def both(self, left, right, row):
        return weigh(left, right, row), weigh(right, left, row)

    def test_quotients_of_large_neighbours(self):
        """a/b times b/c is a/c exactly; a step of 1 in a large number is seen."""
        a = 3 ** 20000
        b = a + 2 ** 9000
        c = b + 5 ** 8000
        left = Length(1, (1, 1, 0))
        right = Length(1, (0, 0, 1))
        for root in (1, 2, 1000):
            with self.subTest(root=root):
                self.assertEqual(self.both(left, right, (root, ((a, b), (b, c), (a, c)))), (0, 0))
                self.assertEqual(self.both(left, right, (root, ((a + 1, b), (b, c), (a, c)))), (1, -1))
                self.assertEqual(self.both(left, right, (root, ((a, b), (b - 1, c), (a, c)))), (-1, 1))
                self.assertEqual(self.both(left, right, (root, ((a, b), (b, c), (a + 1, c)))), (-1, 1))
                self.assertEqual(self.both(left, right, (root, ((a, b), (b, c), (a, c + 1)))), (1, -1))

    def test_a_share_just_below_1(self):
        large = 10 ** 100000
        one = Length(1, (0,))
        for root in (1, 2, 999, 1000):
            row = (root, ((large - 1, large),))
            with self.subTest(root=root):
                self.assertEqual(self.both(Length(1, (1,)), one, row), (-1, 1))
                self.assertEqual(self.both(Length(1, (2,)), Length(1, (1,)), row), (-1, 1))
                self.assertEqual(self.both(Length(1000000, (2,)), Length(999999, (0,)), row), (1, -1))
                self.assertEqual(self.both(Length(1, (2,)), one, (root, ((large, large),))), (0, 0))

    def test_the_most_digits(self):
        large = 10 ** 999999
        left = Length(20, (1,))
        right = Length(19, (0,))
        for step, answers in ((-1, (-1, 1)), (0, (0, 0)), (1, (1, -1))):
            row = (1, ((19 * (large // 100) + step, 20 * (large // 100)),))
            with self.subTest(step=step):
                self.assertEqual(self.both(left, right, row), answers)

    def test_large_numbers_in_four_shares(self):
        """The first share is 1/1000; the other ones make the right side a little less than 1."""
        large = 10 ** 100000
        row = (1000, ((10 ** 97000, large), (large // 3, large), (large - 1, large), (large // 7, large)))
        right = Length(1, (0, 2, 2, 2))
        self.assertEqual(self.both(Length(1000000, (2, 0, 0, 0)), right, row), (1, -1))
        self.assertEqual(self.both(Length(990000, (2, 0, 0, 0)), right, row), (-1, 1))
        self.assertEqual(self.both(Length(1000000, (2, 0, 0, 0)), Length(1, (0, 0, 2, 0)), row), (1, -1))
        self.assertEqual(self.both(Length(1000000, (2, 0, 0, 0)), Length(1, (0, 0, 0, 0)), row), (0, 0))

    def test_small_shares_with_small_tops(self):
        row = (1, ((1, 10 ** 30000), (1, 10 ** 30000 + 1)))
        self.assertEqual(self.both(Length(1, (1, 0)), Length(1, (0, 1)), row), (1, -1))
        self.assertEqual(self.both(Length(1, (2, 0)), Length(1000000, (0, 1)), row), (-1, 1))


class Refused(unittest.TestCase):
    def refused(self, kind, left, right, row):
        with self.assertRaises(kind) as caught:
            weigh(left, right, row)
        self.assertIs(type(caught.exception), kind)

    def test_roots_out_of_range(self):
        for many in (1, 2, 3, 4):
            length = Length(5, (1,) * many)
            for root in (0, -1, -1000, 1001, 1002, 10 ** 30, -10 ** 30):
                with self.subTest(many=many, root=root):
                    self.refused(BadShares, length, length, (root, ((1, 2),) * many))

    def test_edges_of_the_root(self):
        for root in (1, 1000):
            self.assertEqual(weigh(Length(5, (1,)), Length(5, (1,)), (root, ((1, 2),))), 0)

    def test_numbers_of_pairs_out_of_range(self):
        for many in (1, 2, 3, 4):
            length = Length(5, (1,) * many)
            for pairs in (0, 5, 6, 40):
                with self.subTest(many=many, pairs=pairs):
                    self.refused(BadShares, length, length, (1, ((1, 2),) * pairs))

    def test_spoilt_pairs_at_each_place(self):
        spoilt = (
            (0, 1), (0, 0), (-1, 1), (-1, 0), (-2, -1), (-1, -1), (-1, -2), (1, 0), (2, 1), (1, -1), (3, 2),
            (10 ** 400 + 1, 10 ** 400), (0, 10 ** 400), (-10 ** 400, 10 ** 400),
        )
        for many in (1, 2, 3, 4):
            length = Length(5, (1,) * many)
            for place in range(many):
                for top, bottom in spoilt:
                    pairs = [(1, 2)] * many
                    pairs[place] = (top, bottom)
                    with self.subTest(many=many, place=place, top=top > 0, bottom=bottom > 0):
                        self.refused(BadShares, length, length, (1, tuple(pairs)))

    def test_spoilt_pairs_are_found_where_the_power_is_0(self):
        self.refused(BadShares, Length(5, (0,)), Length(6, (0,)), (1, ((2, 1),)))
        self.refused(BadShares, Length(5, (0, 1)), Length(6, (0, 1)), (1, ((1, 2), (0, 1))))

    def test_edges_of_the_pairs(self):
        for pair in ((1, 1), (2, 2), (1, 2), (10 ** 400, 10 ** 400)):
            self.assertEqual(weigh(Length(5, (0,)), Length(6, (0,)), (1, (pair,))), -1)

    def test_each_of_the_three_numbers_of_shares_can_be_the_odd_one(self):
        for many, odd in product((1, 2, 3, 4), repeat=2):
            if many == odd:
                continue
            length = Length(5, (1,) * many)
            other = Length(5, (1,) * odd)
            with self.subTest(many=many, odd=odd):
                self.refused(Mismatch, other, length, (1, ((1, 2),) * many))
                self.refused(Mismatch, length, other, (1, ((1, 2),) * many))
                self.refused(Mismatch, length, length, (1, ((1, 2),) * odd))

    def test_three_different_numbers_of_shares(self):
        for one, two, three in product((1, 2, 3, 4), repeat=3):
            if len({one, two, three}) == 3:
                self.refused(Mismatch, Length(5, (1,) * one), Length(5, (1,) * two), (1, ((1, 2),) * three))

    def test_bad_shares_come_before_a_mismatch(self):
        good = ((1, 2),) * 2
        spoilt = (
            (0, good), (-1, good), (1001, good), (1, ()), (1, ((1, 2),) * 5), (1, ((1, 2), (0, 1))),
            (1, ((2, 1), (1, 2))), (1, ((1, 2), (1, 0))), (1, ((-1, 2), (1, 2))),
        )
        for row in spoilt:
            for one, two in ((1, 1), (1, 2), (2, 1), (3, 4)):
                with self.subTest(row=row, one=one, two=two):
                    self.refused(BadShares, Length(5, (1,) * one), Length(5, (1,) * two), row)


class NothingChanges(unittest.TestCase):
    def test_the_arguments_stay(self):
        left = Length(5, (1, 0))
        right = Length(6, (0, 2))
        pairs = ((1, 2), (2, 3))
        row = (2, pairs)
        weigh(left, right, row)
        self.assertEqual((left.count, left.powers, right.count, right.powers), (5, (1, 0), 6, (0, 2)))
        self.assertEqual((row, pairs), ((2, ((1, 2), (2, 3))), ((1, 2), (2, 3))))


if __name__ == "__main__":
    unittest.main()
