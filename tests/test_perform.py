"""Points 1 and 8: lists of deeds."""

import unittest

from tests.helper import everything, pair, told
from twicewashed.errors import BadLength, NoBolt, NoPiece, NoWash, Stopped, TooOften
from twicewashed.room import Room


def used_room():
    """Bolt 0 is washed twice and has one washing to come that its first piece refuses; bolt 1 is fresh."""
    room = Room(2, [[(0, 1), (0, None), (0, 0)], [(1, None), (None, 1)], []])
    room.cut(0, 40, 30)
    room.wash(0)
    room.cut(1, 50, 60)
    room.wash(0)
    room.trace(2, 0, turned=True)
    return room


GOOD = (
    ("cut", 1, 7, 8),
    ("trace", 1, 0, False),
    ("wash", 1),
    ("cut", 2, 9, 10),
    ("trace", 2, 1, True),
)

BAD = (
    (("cut", 3, 5, 6), NoBolt),
    (("cut", -1, 5, 6), NoBolt),
    (("cut", -1, 0, 1000), NoBolt),
    (("cut", 0, 0, 6), BadLength),
    (("cut", 0, 5, 1000), BadLength),
    (("trace", 3, 0, False), NoBolt),
    (("trace", -1, 99, True), NoBolt),
    (("trace", 0, 99, False), NoPiece),
    (("trace", 0, -1, True), NoPiece),
    (("wash", 3), NoBolt),
    (("wash", -1), NoBolt),
    (("wash", 2), NoWash),
    (("wash", 0), TooOften),
)


class Performed(unittest.TestCase):
    def test_without_deeds(self):
        room = used_room()
        before = everything(room)
        told_first = room.perform()
        self.assertEqual(told_first, [])
        self.assertIs(type(told_first), list)
        told_first.append(5)
        self.assertEqual(room.perform(), [])
        self.assertEqual(everything(room), before)
        self.assertEqual(Room(1, [[]]).perform(), [])

    def test_returns_what_the_single_deeds_return(self):
        room = used_room()
        self.assertEqual(room.perform(*GOOD), [3, 4, None, 5, 6])
        self.assertEqual(room.perform(("wash", 1)), [None])
        self.assertEqual(room.perform(("cut", 0, 1, 999)), [7])

    def test_is_as_the_single_deeds(self):
        room = used_room()
        room.perform(*GOOD)
        other = used_room()
        other.cut(1, 7, 8)
        other.trace(1, 0)
        other.wash(1)
        other.cut(2, 9, 10)
        other.trace(2, 1, turned=True)
        self.assertEqual(everything(room), everything(other))
        self.assertEqual(pair(room, 3), [(7, (0, 1)), (8, (0, 0))])
        self.assertEqual(pair(room, 4), [(40, (2, 1)), (30, (0, 1))])
        self.assertEqual(pair(room, 6), [(60, (0, 0)), (50, (0, 1))])

    def test_pieces_that_are_cut_in_the_same_call(self):
        room = Room(1, [[(0, None)], []])
        told_all = room.perform(
            ("cut", 0, 40, 30), ("wash", 0), ("trace", 1, 0, True), ("trace", 0, 1, False), ("trace", 0, 2, True),
        )
        self.assertEqual(told_all, [0, None, 1, 2, 3])
        self.assertEqual([pair(room, piece) for piece in range(4)], [
            [(40, (1,)), (30, (0,))],
            [(30, (0,)), (40, (1,))],
            [(30, (0,)), (40, (1,))],
            [(40, (1,)), (30, (0,))],
        ])
        self.assertEqual([bolt for bolt, _, _ in room.walk()], [0, 1, 0, 0])

    def test_a_piece_that_is_cut_later_cannot_be_named(self):
        room = Room(1, [[]])
        with self.assertRaises(Stopped) as caught:
            room.perform(("trace", 0, 0, False), ("cut", 0, 5, 6))
        self.assertEqual(caught.exception.at, 0)
        self.assertEqual(room.pieces, 0)

    def test_turned_true_and_false(self):
        room = Room(1, [[]])
        room.perform(("cut", 0, 5, 6), ("trace", 0, 0, True), ("trace", 0, 0, False))
        self.assertEqual([pair(room, piece) for piece in (1, 2)], [[(6, (0,)), (5, (0,))], [(5, (0,)), (6, (0,))]])

    def test_the_deeds_go_on_from_the_call_before(self):
        room = Room(1, [[(0, None), (None, 0)]])
        room.perform(("cut", 0, 5, 6))
        room.wash(0)
        room.perform(("wash", 0))
        self.assertEqual(pair(room, 0), [(5, (1,)), (6, (1,))])
        self.assertEqual(room.coming(0), 0)

    def test_every_returned_list_is_a_new_one(self):
        room = Room(1, [[]])
        one = room.perform(("cut", 0, 5, 6))
        one.append(9)
        one[0] = 7
        two = room.perform(("cut", 0, 5, 6))
        self.assertEqual(two, [1])
        self.assertIsNot(one, two)
        self.assertEqual(room.pieces, 2)

    def test_the_deeds_are_not_changed(self):
        deeds = [("cut", 0, 5, 6), ("trace", 0, 0, True), ("wash", 0)]
        Room(1, [[(0, 0)]]).perform(*deeds)
        self.assertEqual(deeds, [("cut", 0, 5, 6), ("trace", 0, 0, True), ("wash", 0)])


class Refused(unittest.TestCase):
    def stopped(self, room, deeds, at, kind):
        before = everything(room)
        with self.assertRaises(Stopped) as caught:
            room.perform(*deeds)
        error = caught.exception
        self.assertIs(type(error), Stopped)
        self.assertEqual(error.at, at)
        self.assertIs(type(error.__cause__), kind)
        self.assertEqual(everything(room), before)

    def test_each_refused_deed_at_each_place(self):
        for bad, kind in BAD:
            for at in range(len(GOOD) + 1):
                room = used_room()
                with self.subTest(bad=bad, at=at):
                    self.stopped(room, GOOD[:at] + (bad,) + GOOD[at:], at, kind)

    def test_alone(self):
        for bad, kind in BAD:
            with self.subTest(bad=bad):
                self.stopped(used_room(), (bad,), 0, kind)

    def test_the_first_refused_deed_is_told(self):
        self.stopped(used_room(), (GOOD[0], BAD[-1][0], BAD[0][0]), 1, TooOften)
        self.stopped(used_room(), (GOOD[0], BAD[0][0], BAD[-1][0]), 1, NoBolt)

    def test_washings_are_taken_back(self):
        room = Room(2, [[(0, 1), (1, 0)], [(0, None)]])
        room.cut(0, 40, 30)
        room.cut(1, 50, 60)
        self.stopped(room, (("wash", 0), ("wash", 1), ("wash", 0), ("wash", 0)), 3, NoWash)
        self.assertEqual([room.coming(0), room.coming(1)], [2, 1])
        self.assertEqual(room.perform(("wash", 0), ("wash", 0), ("wash", 1)), [None] * 3)
        self.assertEqual(pair(room, 0), [(40, (1, 1)), (30, (1, 1))])
        self.assertEqual(pair(room, 1), [(50, (1, 0)), (60, (0, 0))])

    def test_numbers_of_pieces_are_not_used_up(self):
        room = Room(1, [[]])
        self.assertEqual(room.cut(0, 5, 6), 0)
        self.stopped(room, (("cut", 0, 7, 8), ("cut", 0, 9, 10), ("cut", 0, 0, 0)), 2, BadLength)
        self.assertEqual(room.cut(0, 11, 12), 1)
        self.assertEqual(told(room.edge(1, "along")), (11, (0,)))

    def test_a_third_power_that_the_list_itself_leads_to(self):
        room = Room(1, [[(0, None)] * 4])
        room.cut(0, 5, 6)
        self.stopped(room, (("cut", 0, 7, 8), ("wash", 0), ("wash", 0), ("wash", 0)), 3, TooOften)
        self.assertEqual(room.coming(0), 4)

    def test_the_room_works_on_after_a_refused_list(self):
        room = used_room()
        self.stopped(room, GOOD + (("wash", 0),), len(GOOD), TooOften)
        self.assertEqual(room.perform(*GOOD), [3, 4, None, 5, 6])
        other = used_room()
        other.perform(*GOOD)
        self.assertEqual(everything(room), everything(other))

    def test_a_list_of_many_deeds(self):
        room = Room(1, [[]])
        deeds = [("cut", 0, number % 999 + 1, 5) for number in range(300)]
        self.stopped(room, deeds + [("wash", 0)], 300, NoWash)
        self.assertEqual(room.pieces, 0)
        self.assertEqual(room.perform(*deeds), list(range(300)))


if __name__ == "__main__":
    unittest.main()
