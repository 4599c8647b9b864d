"""The examples of the interface, word for word."""

import unittest

from labelmoves.certificates import certify_alike, certify_missed, certify_stretch
from labelmoves.checker import accepts
from labelmoves.clocks import drift, first_beyond, swing
from labelmoves.comparing import distances, first_at, first_earlier, first_unlike, times_at
from labelmoves.console import Console
from labelmoves.errors import Broken, InvalidRows, InvalidSteps, InvalidText
from labelmoves.houses import House
from labelmoves.lengths import first_doubled, first_missed, start_for, stretch, times_missed
from labelmoves.lists import Cutlist
from labelmoves.mends import mending, shown_against
from labelmoves.moves import Move
from labelmoves.rooms import Room
from labelmoves.telling import best_look, fitting, told_surely


class Houses(unittest.TestCase):
    def test_drop(self):
        drop = House((60, 60, 30), ((1, 1, 2), (1, 10, 0)))
        self.assertEqual(
            [drop.round, drop.written(1799), drop.written(1800), drop.frame((0, 1, 0, 1)), drop.at(1800, "last"), drop.place(17982), drop.label(6 * 17982), str(drop).split("\n")[1]],
            [(600, 17982), '0:00:59:29', '0:01:00:02', None, 1799, 18000, (1, 0, 0, 0), 'skip 1 1 2'],
        )

    def test_small(self):
        small = House((2, 3), ((0, 1, 1),))
        self.assertEqual(
            [small.round, small.label(0), small.label(5), small.spoken("1:0:2"), small.at(0, "last"), small.at(6, "next"), repr(small)],
            [(2, 5), (0, 0, 1), (1, 0, 1), 6, None, 5, 'House(2 3, 1 rows)'],
        )

    def test_no_such_field(self):
        with self.assertRaises(InvalidRows) as caught:
            House((60, 60, 30), ((3, 1, 2),))
        self.assertEqual(caught.exception.index, 0)


class Moves(unittest.TestCase):
    def test_over(self):
        plain, small = House((2, 3)), House((2, 3), ((0, 1, 1),))
        over = Move((small, plain), (("read", 1, "next"),))
        self.assertEqual(
            [over.of(0), over.of(5), over.of(5 * 10 ** 30) == 6 * 10 ** 30 + 1, over.round, over.first, over.end == plain, repr(over)],
            [1, 7, True, (5, 6), 0, True, 'Move(2 houses, 1 steps)'],
        )

    def test_back(self):
        small = House((2, 3), ((0, 1, 1),))
        back = Move((small,), (("unlabel", 6, "last"),))
        self.assertEqual(
            [back.first, back.of(4), back.of(5), back.of(7), back.round, Move((small,), (("to", 0),)).of(3), Move((small,), (("after", 0),)).of(3)],
            [5, None, 0, 2, (1, 1), 0, 5],
        )

    def test_unlike_bases(self):
        small = House((2, 3), ((0, 1, 1),))
        with self.assertRaises(InvalidSteps) as caught:
            Move((small, House((3, 3))), (("read", 1, "next"),))
        self.assertEqual(caught.exception.index, 0)


class Comparing(unittest.TestCase):
    def test_comparing(self):
        small = House((2, 3), ((0, 1, 1),))
        one, two = Move((small,), (("label", 2, "next"),)), Move((small,), (("on", 2),))
        self.assertEqual(
            [first_unlike(one, two), first_earlier(one, two), first_earlier(two, one), distances(one, two), first_at(one, two, -1), times_at(one, two, -1, 10 ** 30) == 2 * 10 ** 29],
            [4, 4, None, (-1, 0), 4, True],
        )
        fast = Move((small,), (("rate", 3, 2),))
        self.assertEqual(
            [distances(fast, two), first_at(fast, two, 5), first_unlike(one, Move((small,), (("label", 2, "next"), ("on", 0))))],
            [(-2, None), 14, None],
        )


class Lengths(unittest.TestCase):
    def test_lengths(self):
        small = House((2, 3), ((0, 1, 1),))
        over, fast = Move((small, House((2, 3))), (("read", 1, "next"),)), Move((small,), (("rate", 2, 3),))
        self.assertEqual(
            [stretch(over, 4), stretch(over, 5 * 10 ** 30) == (6 * 10 ** 30, 6 * 10 ** 30), first_missed(over), times_missed(over, 6 * 10 ** 30) == 10 ** 30 - 1],
            [(4, 5), True, 6, True],
        )
        self.assertEqual(
            [first_doubled(over), first_doubled(fast), stretch(fast, 2), start_for(fast, 10 ** 30) == 15 * 10 ** 29, start_for(over, 6)],
            [None, 0, (1, 2), True, 5],
        )


class Clocks(unittest.TestCase):
    def test_clocks(self):
        small = House((2, 3), ((0, 1, 1),))
        self.assertEqual(
            [drift(small, (5, 2), 0), drift(small, (5, 2), 4), swing(small, (5, 2)), first_beyond(small, (5, 2), (1, 4)), first_beyond(small, (5, 2), (1, 3))],
            [(1, 3), (1, 15), ((1, 15), 4, (1, 3), 0), 0, None],
        )
        self.assertEqual(
            [swing(small, (3, 1)), drift(small, (3, 1), 5), first_beyond(small, (3, 1), (10, 1)), swing(House((60, 60, 30), ((1, 1, 2), (1, 10, 0))), (30000, 1001))],
            [None, (2, 3), 150, None],
        )


class Lists(unittest.TestCase):
    def test_record(self):
        small = House((2, 3), ((0, 1, 1),))
        record = Cutlist(House((2, 3)), 10, ((small, 0, 4), (small, 4, 3), (small, 9, 2)))
        self.assertEqual(
            [record.starts, record.total, record.joins, record.look(5), record.joined().clips == ((small, 0, 7), (small, 9, 2)), repr(record)],
            [(10, 14, 17), 9, (1,), (1, 5, 15), True, 'Cutlist(3 clips, 9 frames)'],
        )
        self.assertEqual(record.moved(0, Move((small, House((2, 3))), (("read", 1, "next"),))).clips[0] == (House((2, 3)), 1, 4), True)


class Telling(unittest.TestCase):
    def test_menu(self):
        menu = (House((2, 3)), House((2, 3), ((0, 1, 1),)), House((2, 3), ((0, 2, 1),)), House((2, 3), ((1, 1, 1),)))
        self.assertEqual(
            [fitting(menu, ((0, "0:0:1"),)), fitting(menu, ((0, "0:0:1"), (2, "0:1:0"))), told_surely(menu, ((0, "0:0:1"),), 5), best_look(menu, 20)],
            [(1, 2, 3), (1, 2), ('1:0:0', '1:0:1', '1:0:2'), 5],
        )


class Mends(unittest.TestCase):
    def test_mends(self):
        small = House((2, 3), ((0, 1, 1),))
        move = Move((small,), (("label", 2, "next"), ("on", 0)))
        goal = str(Move((small,), (("on", 3),)))
        self.assertEqual(
            [shown_against(move, ("alike", goal)), shown_against(move, ("single",)), shown_against(move, ("stretch", 5, 5, 5)), shown_against(move, ("within", goal, -1, 0))],
            [0, 3, None, 4],
        )
        self.assertEqual(mending(move, ((0, ("on", 2)), (1, ("on", 1)), (0, ("on", 3))), (("alike", goal),)), ((2,), (0, 1)))


class Rooms(unittest.TestCase):
    def test_room(self):
        room = Room(Move((House((2, 3), ((0, 1, 1),)),), (("on", 2),)))
        room.wish(("single",))
        with self.assertRaises(Broken) as caught:
            room.add(("rate", 1, 2))
        self.assertEqual((caught.exception.index, caught.exception.shown), (0, 0))
        self.assertEqual(
            [room.changes, room.wishes, room.move.steps, room.add(("rate", 2, 1)), room.undo(), room.changes],
            [1, (('single',),), (('on', 2),), None, None, 1],
        )


class Certificates(unittest.TestCase):
    def test_certificates(self):
        small = House((2, 3), ((0, 1, 1),))
        one, two = Move((small,), (("label", 6, "next"),)), Move((small,), (("on", 5),))
        self.assertEqual(
            [certify_alike(one, two) == (("alike", str(one), str(two)), 5), accepts(("alike", str(one), str(two)), 10), accepts(("alike", str(one), str(two)), 4)],
            [True, True, False],
        )
        over = Move((small, House((2, 3))), (("read", 1, "next"),))
        self.assertEqual(
            [certify_missed(over)[0][2], certify_missed(over)[1], certify_stretch(over, 4)[0][2:], accepts(("doubled", str(over)), 0)],
            [6, 4, (4, 4, 5), False],
        )


class Lines(unittest.TestCase):
    def test_console(self):
        console = Console(Move((House((2, 3), ((0, 1, 1),)),), (("on", 2),)))
        self.assertEqual(
            [console.say("value 3"), console.say("label 5"), console.say("add unlabel 6 last"), console.say("first"), console.say("move"), console.say("add to 2"), console.say("round")],
            ['5', '1:0:1', 'ok', '3', 'on 2 / unlabel 6 last', 'InvalidStep', '1 1'],
        )
        with self.assertRaises(InvalidText) as caught:
            console.say("value 03")
        self.assertEqual(caught.exception.given, 'value 03')


if __name__ == "__main__":
    unittest.main()
