"""Points 1, 3 and 4: lengths."""

import unittest
from itertools import product

from twicewashed.errors import BadLength, Mismatch, NoShare, TooOften
from twicewashed.lengths import Length

MANY = 10 ** 30
# More digits than Python turns into a string.
ENDLESS = 10 ** 5000


def told(length):
    return length.count, length.powers


class Made(unittest.TestCase):
    def refused(self, count, powers):
        with self.assertRaises(BadLength) as caught:
            Length(count, powers)
        self.assertIs(type(caught.exception), BadLength)

    def test_limits_are_class_values(self):
        self.assertEqual((Length.MOST, Length.DEEP), (1000000, 2))
        one = Length(1, (0,))
        self.assertEqual((one.MOST, one.DEEP), (1000000, 2))

    def test_attributes(self):
        for count in (1, 2, 40, 999, 1000, 999999, 1000000):
            with self.subTest(count=count):
                self.assertEqual(told(Length(count, (0, 1, 2))), (count, (0, 1, 2)))

    def test_counts_out_of_range(self):
        for count in (0, -1, -1000000, 1000001, MANY, -MANY, ENDLESS, -ENDLESS):
            for powers in ((0,), (0, 0), (2, 1, 0, 2), [1]):
                with self.subTest(bits=count.bit_length(), powers=powers):
                    self.refused(count, powers)

    def test_one_to_four_powers(self):
        for many in (1, 2, 3, 4):
            with self.subTest(many=many):
                self.assertEqual(Length(7, [0] * many).powers, (0,) * many)
                self.assertEqual(Length(7, (2,) * many).powers, (2,) * many)

    def test_no_powers_and_too_many(self):
        for many in (0, 5, 6, 100):
            with self.subTest(many=many):
                self.refused(7, (0,) * many)
                self.refused(7, [1] * many)

    def test_powers_in_range_at_each_place(self):
        for powers in product((0, 1, 2), repeat=4):
            self.assertEqual(Length(1, powers).powers, powers)

    def test_powers_out_of_range_at_each_place(self):
        for many in (1, 2, 3, 4):
            for place in range(many):
                for power in (-1, 3, 4, -2, -3, MANY, -MANY):
                    powers = [1] * many
                    powers[place] = power
                    with self.subTest(many=many, place=place, power=power):
                        self.refused(5, powers)
                        self.refused(5, tuple(powers))

    def test_powers_are_always_a_tuple(self):
        for powers in ([0, 1], (0, 1)):
            self.assertIs(type(Length(3, powers).powers), tuple)

    def test_a_list_of_powers_is_not_kept(self):
        powers = [0, 1, 2]
        length = Length(3, powers)
        powers[0] = 2
        powers.append(1)
        self.assertEqual(length.powers, (0, 1, 2))
        powers.clear()
        self.assertEqual(length.powers, (0, 1, 2))

    def test_a_list_of_powers_is_not_changed(self):
        powers = [2, 0, 1]
        length = Length(3, powers)
        length.washed(1)
        5 * length
        self.assertEqual(powers, [2, 0, 1])

    def test_names_of_the_arguments(self):
        self.assertEqual(told(Length(count=6, powers=(1,))), (6, (1,)))


class Plain(unittest.TestCase):
    def test_edges(self):
        for count in (1, 2, 999999, 1000000):
            for shares in (1, 2, 3, 4):
                with self.subTest(count=count, shares=shares):
                    length = Length.plain(count, shares)
                    self.assertIs(type(length), Length)
                    self.assertEqual(told(length), (count, (0,) * shares))
                    self.assertIs(type(length.powers), tuple)

    def test_counts_out_of_range(self):
        for count in (0, -1, 1000001, MANY, -MANY, ENDLESS):
            for shares in (1, 2, 3, 4):
                with self.subTest(bits=count.bit_length(), shares=shares):
                    self.assertRaises(BadLength, Length.plain, count, shares)

    def test_shares_out_of_range(self):
        for shares in (0, -1, -4, 5, 6, MANY, -MANY, ENDLESS):
            for count in (1, 1000000, 0):
                with self.subTest(bits=shares.bit_length(), count=count):
                    self.assertRaises(BadLength, Length.plain, count, shares)

    def test_names_of_the_arguments_and_call_off_an_object(self):
        self.assertEqual(told(Length.plain(count=6, shares=2)), (6, (0, 0)))
        self.assertEqual(told(Length(5, (1,)).plain(6, 3)), (6, (0, 0, 0)))


class Compared(unittest.TestCase):
    def check(self, a, b):
        """All six comparisons as the words of point 4 say."""
        deeper = all(x >= y for x, y in zip(a.powers, b.powers))
        shallower = all(x <= y for x, y in zip(a.powers, b.powers))
        same = a.count == b.count and a.powers == b.powers
        self.assertIs(a <= b, deeper and a.count <= b.count)
        self.assertIs(a < b, deeper and a.count < b.count)
        self.assertIs(a >= b, shallower and a.count >= b.count)
        self.assertIs(a > b, shallower and a.count > b.count)
        self.assertIs(a == b, same)
        self.assertIs(a != b, not same)

    def test_one_share(self):
        for m, n in product((1, 2, 3, 1000000), repeat=2):
            for p, q in product((0, 1, 2), repeat=2):
                self.check(Length(m, (p,)), Length(n, [q]))

    def test_two_shares(self):
        rows = list(product((0, 1, 2), repeat=2))
        for m, n in ((1, 1), (1, 2), (2, 1)):
            for p, q in product(rows, repeat=2):
                self.check(Length(m, p), Length(n, q))

    def test_four_shares_at_each_place(self):
        for place in range(4):
            powers = [1, 1, 1, 1]
            for power in (0, 1, 2):
                powers[place] = power
                for m, n in ((8, 8), (8, 9), (9, 8)):
                    self.check(Length(m, powers), Length(n, (1, 1, 1, 1)))

    def test_equal_counts_are_not_less(self):
        a = Length(5, (2, 1))
        b = Length(5, (0, 0))
        self.assertEqual((a <= b, a < b, a >= b, a > b, a == b, a != b), (True, False, False, False, False, True))
        self.assertEqual((b <= a, b < a, b >= a, b > a), (False, False, True, False))

    def test_less_with_equal_powers(self):
        a = Length(4, (1, 1))
        b = Length(5, (1, 1))
        self.assertEqual((a <= b, a < b, a >= b, a > b, a == b, a != b), (True, True, False, False, False, True))

    def test_incomparable(self):
        for a, b in (
            (Length(5, (0, 1)), Length(5, (1, 0))),
            (Length(5, (0,)), Length(6, (1,))),
            (Length(1, (0, 2, 2, 2)), Length(1000000, (1, 0, 0, 0))),
        ):
            self.assertEqual((a <= b, a < b, a >= b, a > b, a == b), (False,) * 5)
            self.assertEqual((b <= a, b < a, b >= a, b > a, b == a), (False,) * 5)

    def test_the_same_object(self):
        a = Length(5, (0, 1))
        self.check(a, a)

    def test_different_numbers_of_shares(self):
        for many, others in product((1, 2, 3, 4), repeat=2):
            if many == others:
                continue
            for count in (1, 5, 9):
                a = Length(5, (0,) * many)
                b = Length(count, (0,) * others)
                with self.subTest(many=many, others=others, count=count):
                    self.assertRaises(Mismatch, lambda: a <= b)
                    self.assertRaises(Mismatch, lambda: a < b)
                    self.assertRaises(Mismatch, lambda: a >= b)
                    self.assertRaises(Mismatch, lambda: a > b)
                    self.assertIs(a == b, False)
                    self.assertIs(a != b, True)


class Multiplied(unittest.TestCase):
    def test_from_both_sides(self):
        for n in (1, 2, 3, 10, 1000):
            a = Length(40, (0, 1, 2))
            with self.subTest(n=n):
                for made in (n * a, a * n):
                    self.assertIs(type(made), Length)
                    self.assertEqual(told(made), (40 * n, (0, 1, 2)))
                    self.assertIs(type(made.powers), tuple)
                    self.assertIsNot(made, a)
                self.assertEqual(told(a), (40, (0, 1, 2)))

    def test_edges_of_the_count(self):
        for count, n in ((500000, 2), (1, 1000000), (1000000, 1), (1000, 1000), (333333, 3)):
            a = Length(count, (1,))
            with self.subTest(count=count, n=n):
                self.assertEqual(told(n * a), (count * n, (1,)))
                self.assertEqual(told(a * n), (count * n, (1,)))
                a *= n
                self.assertEqual(told(a), (count * n, (1,)))

    def test_refused(self):
        for count, n in (
            (500001, 2), (1, 1000001), (1000000, 2), (333334, 3), (1001, 1000), (1, MANY), (7, ENDLESS),
            (5, 0), (5, -1), (1000000, 0), (1, -1000000), (5, -MANY), (5, -ENDLESS),
        ):
            a = first = Length(count, (2, 1))
            with self.subTest(count=count, bits=n.bit_length()):
                self.assertRaises(BadLength, lambda: n * a)
                self.assertRaises(BadLength, lambda: a * n)
                with self.assertRaises(BadLength):
                    a *= n
                self.assertIs(a, first)
                self.assertEqual(told(first), (count, (2, 1)))

    def test_in_place_leaves_the_first_object(self):
        a = first = Length(7, (0, 2))
        a *= 3
        self.assertEqual(told(a), (21, (0, 2)))
        self.assertEqual(told(first), (7, (0, 2)))
        a *= 1
        self.assertEqual(told(a), (21, (0, 2)))

    def test_in_place_leaves_a_list_that_holds_the_first_object(self):
        first = Length(7, (0,))
        row = [first, first]
        row[0] *= 2
        self.assertEqual([told(length) for length in row], [(14, (0,)), (7, (0,))])


class Washed(unittest.TestCase):
    def test_every_share_once_and_twice(self):
        for many in (1, 2, 3, 4):
            for share in range(many):
                first = Length(30, (0,) * many)
                once = first.washed(share)
                twice = once.washed(share)
                with self.subTest(many=many, share=share):
                    for power, length in enumerate((first, once, twice)):
                        self.assertIs(type(length), Length)
                        self.assertIs(type(length.powers), tuple)
                        self.assertEqual(length.count, 30)
                        for j in range(many):
                            self.assertEqual(length.powers[j], power if j == share else 0)

    def test_the_other_powers_stay(self):
        self.assertEqual(told(Length(30, (2, 1, 2, 0)).washed(1)), (30, (2, 2, 2, 0)))
        self.assertEqual(told(Length(30, [2, 1, 2, 0]).washed(3)), (30, (2, 1, 2, 1)))

    def test_three_times_is_too_often(self):
        for many in (1, 2, 3, 4):
            for share in range(many):
                length = Length(9, (0,) * many).washed(share).washed(share)
                before = told(length)
                with self.subTest(many=many, share=share):
                    self.assertRaises(TooOften, length.washed, share)
                    self.assertEqual(told(length), before)

    def test_shares_that_do_not_exist(self):
        for power in (0, 1, 2):
            for many in (1, 2, 3, 4):
                length = Length(9, (power,) * many)
                for share in (-1, -2, -many, -many - 1, many, many + 1, MANY, -MANY):
                    with self.subTest(power=power, many=many, share=share):
                        self.assertRaises(NoShare, length.washed, share)
                self.assertEqual(told(length), (9, (power,) * many))

    def test_name_of_the_argument(self):
        self.assertEqual(Length(9, (0, 0)).washed(share=1).powers, (0, 1))


if __name__ == "__main__":
    unittest.main()
