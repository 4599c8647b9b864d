"""How long clips become, and frames that are missed or doubled: [16] (what "stretch", "full" and "single" mean), [2]."""

import unittest

from plain_houses import DROP
from plain_moves import FAR, PLAIN, SMALL, made, plain_first, plain_through, plain_value, random_moves
from raising import Raising
from wrong_values import INTEGERS_BELOW, OTHER_KINDS, STRINGS, TRUTHS, TUPLES_OF_INTEGERS

from labelmoves.errors import InvalidNumber, NotAMove
from labelmoves.houses import House
from labelmoves.lengths import first_doubled, first_missed, start_for, stretch, times_missed
from labelmoves.moves import Move

small, plain = House(*SMALL), House(*PLAIN)
drop, full = House(*DROP), House((60, 60, 30))


class Told:
    """The values frame by frame from the first frame on, for some rounds."""

    def __init__(self, move, rounds=6):
        self.many = plain_through(move)
        self.first = plain_first(*move)
        self.values = [plain_value(*move, self.first + at) for at in range(rounds * self.many + 1)]
        self.growth = self.values[self.many] - self.values[0]
        reached = dict.fromkeys(self.values)
        self.missed = [frame for frame in range(self.values[0] + 1, self.values[-1]) if frame not in reached]


class OneByOne(unittest.TestCase):
    @classmethod
    def setUpClass(cls):
        cls.cases = [(made(*move), Told(move)) for move in random_moves("lengths", 250, longest=60)]

    def test_there_are_moves_of_each_kind(self):
        self.assertGreater(len([move for move, told in self.cases if told.first > 0]), 50)
        self.assertGreater(len([told for _, told in self.cases if told.missed]), 40)
        self.assertGreater(len([told for _, told in self.cases if not told.missed]), 40)
        self.assertGreater(len([move for move, _ in self.cases if first_doubled(move) is None]), 40)
        self.assertGreater(len([move for move, _ in self.cases if first_doubled(move) is not None]), 40)

    def test_stretch(self):
        for move, told in self.cases:
            for many in (0, 1, 2, 3, 7, told.many - 1, told.many, told.many + 1, 2 * told.many + 3):
                if many + told.many < len(told.values):
                    ends = [told.values[at + many] - told.values[at] for at in range(len(told.values) - many)]
                    self.assertEqual(stretch(move, many), (min(ends), max(ends)))

    def test_stretch_by_thirty_figures(self):
        for move, told in self.cases:
            for rest in (0, 1, told.many // 2, told.many - 1):
                ends = [told.values[at + rest] - told.values[at] for at in range(told.many)]
                whole = told.growth * FAR
                self.assertEqual(stretch(move, told.many * FAR + rest), (min(ends) + whole, max(ends) + whole))

    def test_first_missed(self):
        for move, told in self.cases:
            self.assertEqual(first_missed(move), told.missed[0] if told.missed else None)

    def test_times_missed(self):
        for move, told in self.cases:
            for frame in (0, 1, *range(told.values[0], told.values[-1], 1 + told.growth // 5), told.values[-1]):
                self.assertEqual(times_missed(move, frame), len([missed for missed in told.missed if missed < frame]))

    def test_times_missed_far_out(self):
        for move, told in self.cases:
            within = [missed - told.values[0] for missed in told.missed if missed < told.values[0] + told.growth]
            for rest in (0, 1, told.growth // 2, told.growth - 1):
                times = len(within) * FAR + len([missed for missed in within if missed < rest])
                self.assertEqual(times_missed(move, told.values[0] + told.growth * FAR + rest), times)

    def test_first_doubled(self):
        for move, told in self.cases:
            doubled = [at for at in range(len(told.values) - 1) if told.values[at + 1] == told.values[at]]
            self.assertEqual(first_doubled(move), told.first + doubled[0] if doubled else None)

    def test_start_for(self):
        for move, told in self.cases:
            for frame in (0, 1, *range(told.values[0], told.values[-1] + 1, 1 + told.growth // 7), told.values[-1]):
                reaching = [at for at, value in enumerate(told.values) if value >= frame]
                self.assertEqual(start_for(move, frame), told.first + reaching[0])

    def test_start_for_far_out(self):
        for move, told in self.cases:
            for frame in (FAR, FAR + 1, 10 ** 40):
                start = start_for(move, frame)
                self.assertGreaterEqual(move.of(start), frame)
                self.assertTrue(start == told.first or move.of(start - 1) < frame)


class Stretches(unittest.TestCase):
    def test_nought_and_whole_rounds(self):
        over = Move((small, plain), (("read", 1, "next"),))
        for many, told in ((0, (0, 0)), (5, (6, 6)), (10, (12, 12)), (5 * FAR, (6 * FAR, 6 * FAR)), (4, (4, 5)), (1, (1, 2))):
            self.assertEqual(stretch(over, many), told)
        self.assertEqual(stretch(Move((small,)), 10 ** 40), (10 ** 40, 10 ** 40))

    def test_plain_frames(self):
        for many in (0, 1, 5, 10 ** 40):
            self.assertEqual(stretch(Move((small,), (("on", 9),)), many), (many, many))
            self.assertEqual(stretch(Move((small,), (("back", 10 ** 40),)), many), (many, many))

    def test_rates(self):
        move = Move((small,), (("rate", 2, 3),))
        self.assertEqual([stretch(move, many) for many in range(5)], [(0, 0), (0, 1), (1, 2), (2, 2), (2, 3)])
        self.assertEqual(stretch(move, 10 ** 30 + 1), (2 * (10 ** 30 // 3) + 1, 2 * (10 ** 30 // 3) + 2))
        self.assertEqual(stretch(Move((small,), (("rate", 1, 100),)), 99), (0, 1))
        self.assertEqual(stretch(Move((small,), (("rate", 1, 100),)), 101), (1, 2))

    def test_dropped_labels(self):
        over = Move((drop, full), (("read", 1, "next"),))
        self.assertEqual(stretch(over, 1), (1, 3))
        self.assertEqual(stretch(over, 1798), (1798, 1800))
        for many in (1799, 5000, 17981):
            ends = [over.of(frame + many) - over.of(frame) for frame in range(17982)]
            self.assertEqual(stretch(over, many), (min(ends), max(ends)))
        self.assertEqual(stretch(over, 17982 * FAR), (18000 * FAR, 18000 * FAR))
        self.assertEqual(stretch(Move((drop,), (("to", 1),)), 1), (0, 1800))

    def test_from_the_first_frame_on(self):
        # Frames below the first one would stretch otherwise.
        move = Move((small,), (("back", 4), ("to", 0)))
        self.assertEqual([move.of(n) for n in range(12)], [None] * 4 + [0] * 5 + [5] * 3)
        self.assertEqual(stretch(move, 4), (0, 5))
        self.assertEqual(stretch(move, 5), (5, 5))


class MissedAndDoubled(unittest.TestCase):
    def test_none(self):
        for steps in ((), (("on", 10 ** 40),), (("back", 10 ** 40),), (("label", 6, "next"),), (("rate", 7, 7),)):
            move = Move((small,), steps)
            self.assertIsNone(first_missed(move))
            self.assertIsNone(first_doubled(move))
            self.assertEqual([times_missed(move, frame) for frame in (0, 1, 10 ** 39, 10 ** 50)], [0] * 4)

    def test_frames_up_to_the_first_value_are_not_missed(self):
        move = Move((small,), (("on", 7), ("rate", 2, 1)))
        self.assertEqual(move.of(0), 14)
        self.assertEqual(first_missed(move), 15)
        self.assertEqual([times_missed(move, n) for n in (0, 13, 14, 15, 16, 17, 18, 14 + 2 * FAR)], [0, 0, 0, 0, 1, 1, 2, FAR])

    def test_missed_by_dropped_labels(self):
        over = Move((drop, full), (("read", 1, "next"),))
        self.assertEqual(first_missed(over), 1800)
        self.assertEqual([times_missed(over, n) for n in (1800, 1801, 1802, 3600, 18000, 18000 * FAR)], [0, 1, 2, 2, 18, 18 * FAR])
        self.assertIsNone(first_doubled(over))
        down = Move((full, drop), (("read", 1, "next"),))
        self.assertIsNone(first_missed(down))
        self.assertEqual(first_doubled(down), 1800)
        self.assertEqual(first_doubled(Move((full, drop), (("read", 1, "last"),))), 1799)

    def test_missed_behind_the_first_round_only_at_its_end(self):
        # The last frame of the round and the first one of the next are apart.
        move = Move((small,), (("to", 0),))
        self.assertEqual((move.round, [move.of(n) for n in range(6)]), ((5, 5), [0, 0, 0, 0, 0, 5]))
        self.assertEqual((first_missed(move), first_doubled(move)), (1, 0))
        self.assertEqual([times_missed(move, n) for n in range(12)], [0, 0, 1, 2, 3, 4, 4, 5, 6, 7, 8, 8])
        self.assertEqual(times_missed(move, 5 * FAR), 4 * FAR)

    def test_doubled_only_at_the_end_of_a_round(self):
        move = Move((small,), (("on", 1), ("rate", 2, 3)))
        self.assertEqual([move.of(n) for n in range(6)], [0, 1, 2, 2, 3, 4])
        self.assertEqual(first_doubled(move), 2)
        self.assertIsNone(first_missed(move))

    def test_moves_that_lose_frames(self):
        most = 10 ** 40
        move = Move((small,), (("back", most), ("rate", 3, 2)))
        self.assertEqual((first_missed(move), first_doubled(move)), (2, None))
        self.assertEqual(times_missed(move, 3 * FAR), FAR)
        move = Move((small,), (("back", most), ("rate", 2, 3)))
        self.assertEqual((first_missed(move), first_doubled(move)), (None, most))
        move = Move((small,), (("rate", 2, 1), ("back", 7)))
        self.assertEqual((move.first, move.of(4), first_missed(move)), (4, 1, 2))
        self.assertEqual([times_missed(move, n) for n in (0, 1, 2, 3, 4, 5, FAR)], [0, 0, 0, 1, 1, 2, (FAR - 1) // 2])

    def test_plateaus_over_the_end_of_a_round(self):
        move = Move((small,), (("on", 2), ("to", 0)))
        self.assertEqual([move.of(n) for n in range(10)], [0, 0, 0, 5, 5, 5, 5, 5, 10, 10])
        self.assertEqual(times_missed(move, 10 * FAR), 8 * FAR)
        self.assertEqual([start_for(move, n) for n in (0, 1, 5, 6, 10, 11)], [0, 3, 3, 8, 8, 13])
        self.assertEqual(start_for(move, 5 * FAR), 5 * FAR - 2)

    def test_start_for(self):
        for steps, starts in (
            ((), {0: 0, 7: 7, FAR: FAR}),
            ((("on", 5),), {0: 0, 4: 0, 5: 0, 6: 1, FAR: FAR - 5}),
            ((("back", 5),), {0: 5, 1: 6, FAR: FAR + 5}),
            ((("rate", 1, 100),), {0: 0, 1: 100, FAR: 100 * FAR}),
            ((("rate", 100, 1),), {0: 0, 1: 1, 100: 1, 101: 2, 10 ** 40: 10 ** 38, 10 ** 40 + 1: 10 ** 38 + 1}),
            ((("unlabel", 6, "last"),), {0: 5, 1: 6}),
            ((("to", 0),), {0: 0, 1: 5, 5: 5, 6: 10}),
            ((("after", 0),), {0: 0, 5: 0, 6: 5, 10: 5, 11: 10}),
        ):
            for frame, start in starts.items():
                self.assertEqual(start_for(Move((small,), steps), frame), start)


class Errors(Raising):
    move = Move((small,), (("rate", 2, 3),))

    def test_no_moves(self):
        others = (0, 1, small, str(self.move), (small,), ((small,), ()), [self.move], Move, "move")
        for given in (*OTHER_KINDS, *TRUTHS, *STRINGS, *TUPLES_OF_INTEGERS, *INTEGERS_BELOW, *others):
            for call in (first_missed, first_doubled):
                self.assert_given(NotAMove, given, call, given)
            for call in (stretch, times_missed, start_for):
                self.assert_given(NotAMove, given, call, given, 5)
                self.assert_given(NotAMove, given, call, given, -1)

    def test_numbers_of_each_kind(self):
        for given in (*OTHER_KINDS, *TRUTHS, *STRINGS, *TUPLES_OF_INTEGERS, *INTEGERS_BELOW, small, self.move):
            for call in (stretch, times_missed, start_for):
                self.assert_given(InvalidNumber, given, call, self.move, given)
        self.assertEqual((stretch(self.move, 0), times_missed(self.move, 0), start_for(self.move, 0)), ((0, 0), 0, 0))

    def test_by_position_and_by_name(self):
        move = self.move
        self.assertEqual(stretch(many=5, move=move), stretch(move, 5))
        self.assertEqual(first_missed(move=move), first_missed(move))
        self.assertEqual(first_doubled(move=move), first_doubled(move))
        self.assertEqual(times_missed(frame=9, move=move), times_missed(move, frame=9))
        self.assertEqual(start_for(frame=9, move=move), start_for(move, 9))

    def test_the_same_again_is_equal(self):
        told = [(stretch(self.move, 5), first_missed(self.move), times_missed(self.move, 99), first_doubled(self.move), start_for(self.move, 9)) for _ in range(2)]
        self.assertEqual(told, [((3, 4), None, 0, 0, 14)] * 2)
        self.assertIs(type(told[0][0]), tuple)
        self.assertEqual(str(self.move), f"{small}\nmove\nrate 2 3")


if __name__ == "__main__":
    unittest.main()
