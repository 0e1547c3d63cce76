"""Points 1, 5, 6 and 7: rooms and single deeds."""

import unittest

from tests.helper import SIDES, end, everything, pair, told, washings_to_come
from twicewashed.errors import BadBolt, BadLength, BadShares, NoBolt, NoPiece, NoSide, NoWash, TooOften
from twicewashed.lengths import Length
from twicewashed.room import Room

MANY = 10 ** 30
# More digits than Python turns into a string.
ENDLESS = 10 ** 5000


class RoomCase(unittest.TestCase):
    def refused(self, room, kind, call, *arguments, **more):
        """The call raises just this error and changes nothing."""
        before = everything(room)
        with self.assertRaises(kind) as caught:
            call(*arguments, **more)
        self.assertIs(type(caught.exception), kind)
        self.assertEqual(everything(room), before)


class Made(RoomCase):
    def test_a_new_room(self):
        for shares in (1, 2, 3, 4):
            for bolts in (1, 2, 3, 4):
                room = Room(shares, [[(0, None)]] * bolts)
                with self.subTest(shares=shares, bolts=bolts):
                    self.assertEqual(room.pieces, 0)
                    self.assertEqual(list(room.walk()), [])
                    self.assertEqual(washings_to_come(room), [1] * bolts)

    def test_names_of_the_arguments(self):
        self.assertEqual(washings_to_come(Room(shares=1, bolts=[[], [(0, 0)]])), [0, 1])

    def test_numbers_of_washings(self):
        room = Room(2, [[(0, 1)] * many for many in (0, 1, 3, 4)])
        self.assertEqual(washings_to_come(room), [0, 1, 3, 4])
        self.assertEqual(washings_to_come(Room(1, [[]])), [0])

    def test_numbers_of_shares_out_of_range(self):
        for shares in (0, -1, -4, 5, 6, MANY, -MANY, ENDLESS):
            for bolts in ([[]], [[(None, None)]], [[], []]):
                with self.subTest(bits=shares.bit_length(), bolts=bolts):
                    self.assertRaises(BadShares, Room, shares, bolts)

    def test_bad_shares_come_before_a_bad_bolt(self):
        for shares in (0, -1, 5):
            for bolts in ([], [[]] * 5, [[(0, 0)] * 5], [[(9, None)]], [[(None, -1)]], [[(0, 0)]]):
                with self.subTest(shares=shares, bolts=bolts):
                    self.assertRaises(BadShares, Room, shares, bolts)

    def test_numbers_of_bolts_out_of_range(self):
        for shares in (1, 4):
            for bolts in ([], [[]] * 5, [[]] * 6, [[(0, 0)]] * 5):
                with self.subTest(shares=shares, bolts=len(bolts)):
                    self.assertRaises(BadBolt, Room, shares, bolts)

    def test_too_many_washings_at_each_bolt(self):
        for bolts in (1, 2, 4):
            for place in range(bolts):
                for washing in ((0, None), (None, None)):
                    for many in (5, 6):
                        rows = [[(0, 0)] * 4 for _ in range(bolts)]
                        rows[place] = [washing] * many
                        with self.subTest(bolts=bolts, place=place, many=many):
                            self.assertRaises(BadBolt, Room, 1, rows)

    def test_shares_that_do_not_exist_at_each_washing(self):
        for shares in (1, 2, 3, 4):
            for share in (-1, -2, -shares, shares, shares + 1, 7, MANY, -MANY):
                for washing in ((share, 0), (0, share), (None, share), (share, None), (share, share)):
                    for place in range(4):
                        rows = [[(0, 0)], [(0, None)] * 4]
                        rows[1][place] = washing
                        with self.subTest(shares=shares, washing=washing, place=place):
                            self.assertRaises(BadBolt, Room, shares, rows)
                            self.assertRaises(BadBolt, Room, shares, list(reversed(rows)))

    def test_every_share_that_exists(self):
        for shares in (1, 2, 3, 4):
            for share in range(shares):
                room = Room(shares, [[(share, None)], [(None, share)]])
                room.cut(0, 5, 6)
                room.cut(1, 7, 8)
                room.wash(0)
                room.wash(1)
                once = tuple(1 if j == share else 0 for j in range(shares))
                plain = (0,) * shares
                self.assertEqual(pair(room, 0), [(5, once), (6, plain)])
                self.assertEqual(pair(room, 1), [(7, plain), (8, once)])

    def test_lists_changed_behind_the_constructor(self):
        first = [(0, 1), (1, None)]
        second = []
        bolts = [first, second]
        room = Room(2, bolts)
        piece = room.cut(0, 5, 6)
        before = everything(room)
        first[0] = (1, 0)
        self.assertEqual(everything(room), before)
        first.append((0, 0))
        second.append((0, 0))
        self.assertEqual(everything(room), before)
        bolts.append([])
        bolts[0] = []
        self.assertEqual(everything(room), before)
        first.clear()
        bolts.clear()
        self.assertEqual(everything(room), before)
        room.wash(0)
        self.assertEqual(pair(room, piece), [(5, (1, 0)), (6, (0, 1))])
        self.assertRaises(NoWash, room.wash, 1)

    def test_lists_are_not_changed_by_the_room(self):
        first = [(0, 1), (1, None)]
        second = [(None, 0)]
        bolts = [first, second]
        room = Room(2, bolts)
        room.cut(0, 5, 6)
        room.wash(0)
        room.wash(1)
        room.wash(0)
        room.perform(("cut", 1, 3, 3))
        self.assertEqual(bolts, [[(0, 1), (1, None)], [(None, 0)]])
        self.assertIs(bolts[0], first)
        self.assertIs(bolts[1], second)

    def test_one_list_at_two_places(self):
        same = [(0, None), (None, 0)]
        room = Room(1, [same, same, same])
        for bolt in range(3):
            room.cut(bolt, 5, 6)
        room.wash(1)
        self.assertEqual(washings_to_come(room), [2, 1, 2])
        self.assertEqual(pair(room, 0), [(5, (0,)), (6, (0,))])
        self.assertEqual(pair(room, 1), [(5, (1,)), (6, (0,))])
        self.assertEqual(pair(room, 2), [(5, (0,)), (6, (0,))])
        room.wash(1)
        self.assertEqual(washings_to_come(room), [2, 0, 2])
        self.assertEqual(same, [(0, None), (None, 0)])

    def test_one_list_for_two_rooms(self):
        bolts = [[(0, None)]]
        one = Room(1, bolts)
        two = Room(1, bolts)
        one.cut(0, 5, 6)
        one.wash(0)
        self.assertEqual((one.pieces, two.pieces), (1, 0))
        self.assertEqual((one.coming(0), two.coming(0)), (0, 1))


class Cut(RoomCase):
    def test_numbers_and_lengths(self):
        for shares in (1, 2, 3, 4):
            room = Room(shares, [[(0, None)], []])
            sizes = [(0, 1, 1), (1, 999, 1), (0, 1, 999), (1, 999, 999), (1, 40, 30), (0, 40, 30)]
            for number, (bolt, along, across) in enumerate(sizes):
                with self.subTest(shares=shares, number=number):
                    self.assertEqual(room.cut(bolt, along, across), number)
                    self.assertEqual(room.pieces, number + 1)
            plain = (0,) * shares
            for number, (bolt, along, across) in enumerate(sizes):
                self.assertEqual(pair(room, number), [(along, plain), (across, plain)])

    def test_powers_are_0_after_washings_too(self):
        room = Room(2, [[(0, 1), (1, 0)]])
        room.wash(0)
        piece = room.cut(0, 40, 30)
        self.assertEqual(pair(room, piece), [(40, (0, 0)), (30, (0, 0))])
        self.assertEqual(told(room.finished(piece, "along")), (40, (0, 1)))
        room.wash(0)
        self.assertEqual(pair(room, room.cut(0, 40, 30)), [(40, (0, 0)), (30, (0, 0))])

    def test_bolts_that_do_not_exist(self):
        for bolts in (1, 2, 4):
            room = Room(1, [[]] * bolts)
            room.cut(0, 5, 6)
            for bolt in (-1, -bolts, bolts, bolts + 1, MANY, -MANY):
                with self.subTest(bolts=bolts, bolt=bolt):
                    self.refused(room, NoBolt, room.cut, bolt, 5, 6)

    def test_sizes_out_of_range(self):
        room = Room(1, [[]])
        room.cut(0, 5, 6)
        for size in (0, -1, -999, 1000, 1001, 1000000, 1000001, MANY, -MANY, ENDLESS):
            for along, across in ((size, 5), (5, size), (size, size)):
                with self.subTest(bits=size.bit_length()):
                    self.refused(room, BadLength, room.cut, 0, along, across)
        self.assertEqual(room.cut(0, 5, 6), 1)

    def test_no_bolt_comes_before_a_bad_length(self):
        room = Room(1, [[]])
        for bolt in (-1, 1):
            for along, across in ((0, 5), (5, 1000), (-1, -1)):
                self.refused(room, NoBolt, room.cut, bolt, along, across)

    def test_names_of_the_arguments(self):
        room = Room(1, [[], []])
        self.assertEqual(room.cut(bolt=1, along=5, across=6), 0)
        self.assertEqual([(b, told(x), told(y)) for b, x, y in room.walk()], [(1, (5, (0,)), (6, (0,)))])


class Trace(RoomCase):
    def test_from_the_same_bolt(self):
        room = Room(1, [[(0, None)]])
        room.cut(0, 40, 30)
        self.assertEqual(room.trace(0, 0), 1)
        self.assertEqual(room.trace(0, 0, turned=True), 2)
        self.assertEqual(room.trace(0, 0, turned=False), 3)
        self.assertEqual(room.pieces, 4)
        self.assertEqual(pair(room, 0), [(40, (0,)), (30, (0,))])
        self.assertEqual(pair(room, 1), [(40, (0,)), (30, (0,))])
        self.assertEqual(pair(room, 2), [(30, (0,)), (40, (0,))])
        self.assertEqual(pair(room, 3), [(40, (0,)), (30, (0,))])

    def test_from_another_bolt_with_powers(self):
        room = Room(3, [[(0, 1), (0, None)], [(2, None)]])
        room.cut(0, 40, 30)
        room.wash(0)
        straight = room.trace(1, 0)
        turned = room.trace(1, 0, turned=True)
        self.assertEqual(pair(room, straight), [(40, (1, 0, 0)), (30, (0, 1, 0))])
        self.assertEqual(pair(room, turned), [(30, (0, 1, 0)), (40, (1, 0, 0))])
        self.assertEqual([bolt for bolt, _, _ in room.walk()], [0, 1, 1])
        self.assertEqual(told(room.finished(straight, "along")), (40, (1, 0, 1)))
        self.assertEqual(told(room.finished(turned, "along")), (30, (0, 1, 1)))
        self.assertEqual(told(room.finished(turned, "across")), (40, (1, 0, 0)))

    def test_as_large_as_the_piece_is_at_this_moment(self):
        room = Room(1, [[(0, None), (0, None)], []])
        room.cut(0, 40, 30)
        traced = []
        for _ in range(2):
            traced.append(room.trace(1, 0))
            room.wash(0)
        traced.append(room.trace(1, 0))
        self.assertEqual([pair(room, piece)[0] for piece in traced], [(40, (0,)), (40, (1,)), (40, (2,))])
        self.assertEqual([end(room, piece, "along") for piece in traced], [(40, (0,)), (40, (1,)), (40, (2,))])

    def test_the_earlier_piece_and_the_new_one_change_apart(self):
        room = Room(2, [[(0, 0)], [(1, None)]])
        room.cut(0, 40, 30)
        room.trace(1, 0, turned=True)
        room.wash(1)
        self.assertEqual(pair(room, 0), [(40, (0, 0)), (30, (0, 0))])
        self.assertEqual(pair(room, 1), [(30, (0, 1)), (40, (0, 0))])
        room.wash(0)
        self.assertEqual(pair(room, 0), [(40, (1, 0)), (30, (1, 0))])
        self.assertEqual(pair(room, 1), [(30, (0, 1)), (40, (0, 0))])

    def test_tracing_does_not_change_the_room_otherwise(self):
        room = Room(2, [[(0, 0)], [(1, None)]])
        room.cut(0, 40, 30)
        before = everything(room)
        room.trace(1, 0, turned=True)
        after = everything(room)
        self.assertEqual(after["coming"], before["coming"])
        self.assertEqual(after["present"][:1], before["present"])
        self.assertEqual(after["walk"][:1], before["walk"])

    def test_a_trace_of_a_trace(self):
        room = Room(1, [[(0, None)], []])
        room.cut(0, 40, 30)
        room.trace(0, 0, turned=True)
        room.wash(0)
        room.trace(1, 1, turned=True)
        room.trace(1, 2)
        self.assertEqual(pair(room, 0), [(40, (1,)), (30, (0,))])
        self.assertEqual(pair(room, 1), [(30, (1,)), (40, (0,))])
        self.assertEqual(pair(room, 2), [(40, (0,)), (30, (1,))])
        self.assertEqual(pair(room, 3), [(40, (0,)), (30, (1,))])

    def test_a_bolt_that_is_washed_already_does_not_wash_the_new_piece(self):
        room = Room(2, [[], [(1, 1)]])
        room.cut(0, 40, 30)
        room.wash(1)
        room.trace(1, 0)
        self.assertEqual(pair(room, 1), [(40, (0, 0)), (30, (0, 0))])
        self.assertEqual(told(room.finished(1, "along")), (40, (0, 0)))

    def test_bolts_and_pieces_that_do_not_exist(self):
        room = Room(1, [[], []])
        self.refused(room, NoPiece, room.trace, 0, 0)
        room.cut(0, 5, 6)
        room.cut(1, 7, 8)
        for bolt in (-1, -2, 2, 3, MANY, -MANY):
            self.refused(room, NoBolt, room.trace, bolt, 0)
        for piece in (-1, -2, 2, 3, MANY, -MANY):
            self.refused(room, NoPiece, room.trace, 0, piece)
            self.refused(room, NoPiece, room.trace, 1, piece, turned=True)

    def test_no_bolt_comes_before_no_piece(self):
        room = Room(1, [[]])
        for bolt in (-1, 1):
            for piece in (-1, 0, 9):
                self.refused(room, NoBolt, room.trace, bolt, piece)

    def test_turned_is_passed_by_its_name(self):
        room = Room(1, [[]])
        room.cut(0, 5, 6)
        self.refused(room, TypeError, room.trace, 0, 0, True)
        self.assertEqual(room.trace(bolt=0, piece=0, turned=True), 1)


class Wash(RoomCase):
    def test_returns_none_and_takes_the_washings_in_order(self):
        room = Room(4, [[(0, 1), (2, None), (None, 3), (None, None)]])
        room.cut(0, 40, 30)
        due = [
            [(40, (1, 0, 0, 0)), (30, (0, 1, 0, 0))],
            [(40, (1, 0, 1, 0)), (30, (0, 1, 0, 0))],
            [(40, (1, 0, 1, 0)), (30, (0, 1, 0, 1))],
            [(40, (1, 0, 1, 0)), (30, (0, 1, 0, 1))],
        ]
        for done, lengths in enumerate(due):
            self.assertIsNone(room.wash(0))
            self.assertEqual(pair(room, 0), lengths)
            self.assertEqual(room.coming(0), 3 - done)
        self.refused(room, NoWash, room.wash, 0)

    def test_the_same_share_in_both_directions(self):
        room = Room(2, [[(1, 1), (1, 1)]])
        room.cut(0, 40, 30)
        room.wash(0)
        self.assertEqual(pair(room, 0), [(40, (0, 1)), (30, (0, 1))])
        room.wash(0)
        self.assertEqual(pair(room, 0), [(40, (0, 2)), (30, (0, 2))])

    def test_only_the_pieces_of_this_bolt_that_have_been_cut_so_far(self):
        room = Room(2, [[(0, None), (None, 0)], [(1, 1)]])
        room.cut(0, 10, 11)
        room.cut(1, 20, 21)
        room.cut(0, 30, 31)
        room.wash(0)
        room.cut(0, 40, 41)
        self.assertEqual(pair(room, 0), [(10, (1, 0)), (11, (0, 0))])
        self.assertEqual(pair(room, 1), [(20, (0, 0)), (21, (0, 0))])
        self.assertEqual(pair(room, 2), [(30, (1, 0)), (31, (0, 0))])
        self.assertEqual(pair(room, 3), [(40, (0, 0)), (41, (0, 0))])
        room.wash(0)
        self.assertEqual(pair(room, 0), [(10, (1, 0)), (11, (1, 0))])
        self.assertEqual(pair(room, 1), [(20, (0, 0)), (21, (0, 0))])
        self.assertEqual(pair(room, 2), [(30, (1, 0)), (31, (1, 0))])
        self.assertEqual(pair(room, 3), [(40, (0, 0)), (41, (1, 0))])
        self.assertEqual(washings_to_come(room), [0, 1])

    def test_a_bolt_without_pieces(self):
        room = Room(1, [[(0, 0)] * 4])
        for left in (3, 2, 1, 0):
            room.wash(0)
            self.assertEqual(room.coming(0), left)
        self.refused(room, NoWash, room.wash, 0)

    def test_a_length_that_was_asked_for_stays(self):
        room = Room(1, [[(0, 0)]])
        room.cut(0, 40, 30)
        before = room.edge(0, "along")
        room.wash(0)
        self.assertEqual(told(before), (40, (0,)))
        self.assertEqual(told(room.edge(0, "along")), (40, (1,)))

    def test_bolts_that_do_not_exist(self):
        room = Room(1, [[(0, 0)], [(0, 0)]])
        room.cut(0, 40, 30)
        for bolt in (-1, -2, 2, 3, MANY, -MANY):
            self.refused(room, NoBolt, room.wash, bolt)

    def test_no_washing_to_come(self):
        room = Room(1, [[], [(0, 0)]])
        room.cut(0, 40, 30)
        self.refused(room, NoWash, room.wash, 0)
        room.wash(1)
        self.refused(room, NoWash, room.wash, 1)

    def test_a_third_power_along_or_across(self):
        for washing, at in (((0, None), 0), ((None, 0), 1), ((0, 1), 0), ((1, 0), 1)):
            room = Room(2, [[washing] * 3])
            room.cut(0, 40, 30)
            room.wash(0)
            room.wash(0)
            self.assertEqual(pair(room, 0)[at][1][0], 2)
            with self.subTest(washing=washing):
                self.refused(room, TooOften, room.wash, 0)
                self.refused(room, TooOften, room.wash, 0)
                self.assertEqual(room.coming(0), 1)

    def test_a_third_power_for_one_piece_changes_no_piece(self):
        for place in range(3):
            room = Room(2, [[(0, 0), (0, 0)], [(1, 0)]])
            room.cut(0, 40, 30)
            room.wash(0)
            room.wash(0)
            for number in range(3):
                if number == place:
                    room.trace(1, 0)
                else:
                    room.cut(1, 7, 8)
            with self.subTest(place=place):
                self.refused(room, TooOften, room.wash, 1)
                self.assertEqual(room.coming(1), 1)
                self.assertEqual(pair(room, 0), [(40, (2, 0)), (30, (2, 0))])

    def test_pieces_of_other_bolts_do_not_hinder(self):
        room = Room(1, [[(0, 0), (0, 0)], [(0, 0)]])
        room.cut(0, 40, 30)
        room.cut(1, 7, 8)
        room.wash(0)
        room.wash(0)
        room.wash(1)
        self.assertEqual(pair(room, 1), [(7, (1,)), (8, (1,))])
        self.assertEqual(pair(room, 0), [(40, (2,)), (30, (2,))])

    def test_pieces_that_are_cut_later_are_washed_less(self):
        room = Room(1, [[(0, None), (0, None), (0, None), (0, None)]])
        room.wash(0)
        room.wash(0)
        room.cut(0, 40, 30)
        room.wash(0)
        room.wash(0)
        self.assertEqual(pair(room, 0), [(40, (2,)), (30, (0,))])
        self.assertEqual(room.coming(0), 0)

    def test_a_turned_trace_is_washed_along_its_own_side(self):
        room = Room(1, [[(0, None), (0, None)], [(0, None)], [(None, 0)]])
        room.cut(0, 40, 30)
        room.wash(0)
        room.wash(0)
        room.trace(1, 0, turned=True)
        room.wash(1)
        self.assertEqual(pair(room, 1), [(30, (1,)), (40, (2,))])
        room.trace(2, 0, turned=True)
        self.refused(room, TooOften, room.wash, 2)

    def test_name_of_the_argument(self):
        room = Room(1, [[(0, 0)]])
        room.wash(bolt=0)
        self.assertEqual(room.coming(bolt=0), 0)


class Asked(RoomCase):
    def test_edge_and_finished_are_lengths(self):
        room = Room(2, [[(0, 1), (0, None)]])
        room.cut(0, 40, 30)
        for side in SIDES:
            self.assertIs(type(room.edge(0, side)), Length)
            self.assertIs(type(room.finished(0, side)), Length)
        self.assertEqual(told(room.edge(piece=0, side="across")), (30, (0, 0)))
        self.assertEqual(told(room.finished(piece=0, side="across")), (30, (0, 1)))

    def test_finished_is_present_after_all_washings(self):
        room = Room(3, [[(0, 1), (2, None), (0, 1), (None, 2)], [(1, 1)]])
        room.cut(0, 40, 30)
        room.cut(1, 50, 60)
        due = [[(40, (2, 0, 1)), (30, (0, 2, 1))], [(50, (0, 1, 0)), (60, (0, 1, 0))]]
        for left in (4, 3, 2, 1, 0):
            self.assertEqual(room.coming(0), left)
            self.assertEqual([[end(room, piece, side) for side in SIDES] for piece in (0, 1)], due)
            if left > 0:
                room.wash(0)
        self.assertEqual(pair(room, 0), due[0])
        self.assertEqual(pair(room, 1), [(50, (0, 0, 0)), (60, (0, 0, 0))])

    def test_finished_changes_nothing(self):
        room = Room(1, [[(0, 0), (0, None)]])
        room.cut(0, 40, 30)
        before = everything(room)
        self.assertEqual(everything(room), before)
        self.assertEqual(pair(room, 0), [(40, (0,)), (30, (0,))])
        self.assertEqual(room.coming(0), 2)

    def test_only_the_side_that_is_asked_for_matters(self):
        room = Room(2, [[(0, None)] * 3, [(None, 1)] * 4, [(0, 0)] * 3])
        for bolt in range(3):
            room.cut(bolt, 40, 30)
        self.refused(room, TooOften, room.finished, 0, "along")
        self.assertEqual(told(room.finished(0, "across")), (30, (0, 0)))
        self.refused(room, TooOften, room.finished, 1, "across")
        self.assertEqual(told(room.finished(1, "along")), (40, (0, 0)))
        self.refused(room, TooOften, room.finished, 2, "along")
        self.refused(room, TooOften, room.finished, 2, "across")
        self.assertEqual(told(room.edge(2, "along")), (40, (0, 0)))

    def test_a_piece_that_is_cut_later_has_a_finished_length(self):
        room = Room(1, [[(0, None)] * 3])
        room.cut(0, 40, 30)
        room.wash(0)
        room.cut(0, 50, 60)
        self.refused(room, TooOften, room.finished, 0, "along")
        self.assertEqual(told(room.finished(1, "along")), (50, (2,)))

    def test_too_often_by_the_powers_of_a_traced_piece(self):
        room = Room(1, [[(0, 0), (0, 0)], [(0, None)], []])
        room.cut(0, 40, 30)
        room.wash(0)
        room.wash(0)
        room.trace(1, 0)
        room.trace(2, 0)
        self.refused(room, TooOften, room.finished, 1, "along")
        self.assertEqual(told(room.finished(1, "across")), (30, (2,)))
        self.assertEqual(told(room.finished(2, "along")), (40, (2,)))

    def test_pieces_that_do_not_exist(self):
        room = Room(1, [[(0, 0)]])
        for ask in (room.edge, room.finished):
            self.refused(room, NoPiece, ask, 0, "along")
        room.cut(0, 40, 30)
        room.cut(0, 50, 60)
        for ask in (room.edge, room.finished):
            for piece in (-1, -2, 2, 3, MANY, -MANY):
                self.refused(room, NoPiece, ask, piece, "along")

    def test_sides_that_do_not_exist(self):
        room = Room(1, [[(0, 0)]])
        room.cut(0, 40, 30)
        for ask in (room.edge, room.finished):
            for side in ("", "a", "l", "long", "cross", "Along", "ACROSS", " along", "along ", "left", "alongacross"):
                with self.subTest(side=side):
                    self.refused(room, NoSide, ask, 0, side)

    def test_the_order_of_the_errors(self):
        room = Room(1, [[(0, 0)] * 3])
        room.cut(0, 40, 30)
        for ask in (room.edge, room.finished):
            for piece in (-1, 1):
                self.refused(room, NoPiece, ask, piece, "aside")
        self.refused(room, NoPiece, room.finished, 1, "along")
        self.refused(room, NoSide, room.finished, 0, "aside")
        self.refused(room, TooOften, room.finished, 0, "along")

    def test_coming(self):
        room = Room(1, [[], [(0, 0)] * 4])
        self.assertEqual((room.coming(0), room.coming(1)), (0, 4))
        room.wash(1)
        self.assertEqual((room.coming(0), room.coming(1)), (0, 3))
        for bolt in (-1, -2, 2, 3, MANY, -MANY):
            self.refused(room, NoBolt, room.coming, bolt)

    def test_pieces_is_a_property(self):
        self.assertIsInstance(vars(Room)["pieces"], property)
        room = Room(1, [[], []])
        numbers = [room.pieces]
        room.cut(1, 5, 6)
        numbers.append(room.pieces)
        room.trace(0, 0)
        numbers.append(room.pieces)
        self.assertEqual(numbers, [0, 1, 2])

    def test_walk(self):
        room = Room(2, [[(0, 1)], [], [(1, 0)]])
        self.assertEqual(list(room.walk()), [])
        room.cut(2, 5, 6)
        room.cut(0, 7, 8)
        room.trace(1, 0, turned=True)
        room.wash(0)
        rows = list(room.walk())
        for row in rows:
            self.assertIs(type(row), tuple)
            self.assertEqual([type(part) for part in row], [int, Length, Length])
        self.assertEqual([(bolt, told(along), told(across)) for bolt, along, across in rows], [
            (2, (5, (0, 0)), (6, (0, 0))),
            (0, (7, (1, 0)), (8, (0, 1))),
            (1, (6, (0, 0)), (5, (0, 0))),
        ])

    def test_walk_yields_one_piece_at_a_time_and_starts_anew(self):
        room = Room(1, [[]])
        room.cut(0, 5, 6)
        room.cut(0, 7, 8)
        steps = room.walk()
        self.assertEqual(told(next(steps)[1]), (5, (0,)))
        self.assertEqual(len(list(room.walk())), 2)
        self.assertEqual(told(next(steps)[1]), (7, (0,)))
        self.assertRaises(StopIteration, next, steps)

    def test_two_rooms_are_apart(self):
        one = Room(1, [[(0, 0)]])
        two = Room(1, [[(0, 0)]])
        one.cut(0, 5, 6)
        one.wash(0)
        self.assertEqual((one.pieces, two.pieces), (1, 0))
        self.assertEqual((one.coming(0), two.coming(0)), (0, 1))


if __name__ == "__main__":
    unittest.main()
