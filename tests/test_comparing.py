"""Two moves beside each other: [13], [2] (Compared)."""

import unittest

from plain_houses import DROP
from plain_moves import FAR, PLAIN, SMALL, made
from plain_pairs import Told, pairs
from raising import Raising
from wrong_values import INTEGERS_BELOW, OTHER_KINDS, STRINGS, TRUTHS, TUPLES_OF_INTEGERS

from labelmoves.comparing import distances, first_at, first_earlier, first_unlike, times_at
from labelmoves.errors import InvalidNumber, NotAMove
from labelmoves.houses import House
from labelmoves.moves import Move

small, plain = House(*SMALL), House(*PLAIN)
drop, full = House(*DROP), House((60, 60, 30))

NO_INTEGERS = (*OTHER_KINDS, *TRUTHS, *STRINGS, *TUPLES_OF_INTEGERS, small, Move((small,)))


class OneByOne(unittest.TestCase):
    @classmethod
    def setUpClass(cls):
        cls.cases = [(made(*one), made(*other), Told(one, other)) for one, other in pairs("told", 250)]

    def test_there_are_pairs_of_each_kind(self):
        for growth in (-1, 0, 1):
            self.assertGreater(len([told for _, _, told in self.cases if (told.growth > 0) - (told.growth < 0) == growth]), 20)
        self.assertGreater(len([one for one, other, _ in self.cases if one.first != other.first]), 20)
        self.assertGreater(len([told for _, _, told in self.cases if all(left == right for left, right in told.values)]), 5)

    def test_first_unlike(self):
        for one, other, told in self.cases:
            unlike = [frame for frame, (left, right) in zip(told.frames, told.values) if left != right]
            self.assertEqual(first_unlike(one, other), unlike[0] if unlike else None)

    def test_distances(self):
        for one, other, told in self.cases:
            least, greatest = min(told.apart[:told.many]), max(told.apart[:told.many])
            if told.growth:
                self.assertGreater(abs(told.apart[-1] - told.apart[0]), 0)
            self.assertEqual(distances(one, other), (None if told.growth < 0 else least, None if told.growth > 0 else greatest))

    def test_first_earlier(self):
        for one, other, told in self.cases:
            frames = [frame for frame, distance in told.distances() if distance < 0]
            if frames:
                self.assertEqual(first_earlier(one, other), frames[0])
            elif told.growth >= 0:
                self.assertIsNone(first_earlier(one, other))
            else:
                frame = first_earlier(one, other)
                self.assertGreaterEqual(frame, len(told.values))
                self.assertLess(one.of(frame), other.of(frame))
                # It falls from round to round, so it would have been below already in the round ahead.
                for ahead in range(frame - told.many, frame):
                    self.assertGreaterEqual(one.of(ahead), other.of(ahead))

    def seen_whole(self, told):
        """Distances that come only where they have been told, beside some that never come."""
        behind = told.apart[-told.many:]
        low, high = min(told.apart) - 2, max(told.apart) + 2
        if told.growth > 0:
            high = min(behind)
        if told.growth < 0:
            low = max(behind)
        return range(max(low, -60), min(high, 60) + 1)

    def test_first_at(self):
        for one, other, told in self.cases:
            for distance in self.seen_whole(told):
                frames = [frame for frame, apart in told.distances() if apart == distance]
                self.assertEqual(first_at(one, other, distance), frames[0] if frames else None)

    def test_times_at(self):
        for one, other, told in self.cases:
            for distance in list(self.seen_whole(told))[::3]:
                frames = [frame for frame, apart in told.distances() if apart == distance]
                for below in (0, 1, told.first, told.first + 1, *range(told.first, len(told.values), 1 + told.many // 3)):
                    self.assertEqual(times_at(one, other, distance, below), len([frame for frame in frames if frame < below]))

    def test_times_at_far_out(self):
        for one, other, told in self.cases:
            for distance in list(self.seen_whole(told))[::3]:
                frames = [frame for frame, apart in told.distances() if apart == distance]
                within = [frame - told.first for frame in frames if frame < told.first + told.many]
                for rest in (0, 1, told.many // 2, told.many - 1):
                    times = len(within) * 10 ** 30 + len([at for at in within if at < rest]) if told.growth == 0 else len(frames)
                    self.assertEqual(times_at(one, other, distance, told.first + 10 ** 30 * told.many + rest), times)

    def test_both_orders(self):
        for one, other, told in self.cases:
            self.assertEqual(first_unlike(one, other), first_unlike(other, one))
            least, greatest = distances(one, other)
            turned = (None if greatest is None else -greatest, None if least is None else -least)
            self.assertEqual(distances(other, one), turned)
            for distance in (-2, 0, 3):
                self.assertEqual(first_at(one, other, distance), first_at(other, one, -distance))
                self.assertEqual(times_at(one, other, distance, 99), times_at(other, one, -distance, 99))

    def test_a_move_beside_itself(self):
        for move, _, _ in self.cases[:80]:
            again = Move(move.houses, move.steps)
            for other in (move, again):
                self.assertIsNone(first_unlike(move, other))
                self.assertIsNone(first_earlier(move, other))
                self.assertEqual(distances(move, other), (0, 0))
                self.assertEqual(first_at(move, other, 0), move.first)
                self.assertIsNone(first_at(move, other, 1))
                self.assertIsNone(first_at(move, other, -1))
                self.assertEqual(times_at(move, other, 0, move.first + FAR), FAR)
                self.assertEqual(times_at(move, other, 0, move.first), 0)
                self.assertEqual(times_at(move, other, 2, FAR), 0)


class Lost(unittest.TestCase):
    def test_lost_is_unlike_what_is_not_lost(self):
        one, other = Move((small,), (("back", 7),)), Move((small,), (("back", 3), ("back", 4)))
        self.assertIsNone(first_unlike(one, other))
        for steps, frame in (((("back", 8),), 7), ((("back", 9),), 7), ((("back", 6),), 6), ((), 0), ((("back", 8), ("on", 1)), 7)):
            other = Move((small,), steps)
            self.assertEqual(first_unlike(one, other), frame)
            self.assertEqual(first_unlike(other, one), frame)
        far = Move((small,), (("back", 10 ** 40),))
        self.assertEqual(first_unlike(far, Move((small,), (("back", 10 ** 40), ("on", 1)))), 10 ** 40)
        self.assertEqual(first_unlike(far, Move((small,), (("back", 10 ** 40 - 1), ("back", 2)))), 10 ** 40)
        self.assertIsNone(first_unlike(far, Move((small,), (("back", 10 ** 40 - 1), ("back", 1)))))

    def test_lost_frames_have_no_distance(self):
        late, early = Move((small,), (("back", 9), ("on", 9))), Move((small,))
        self.assertEqual(first_unlike(late, early), 0)
        self.assertEqual(distances(late, early), (0, 0))
        self.assertIsNone(first_earlier(late, early))
        self.assertEqual(first_at(late, early, 0), 9)
        self.assertEqual([times_at(late, early, 0, n) for n in (0, 8, 9, 10, 20, 9 + 10 ** 40)], [0, 0, 0, 1, 11, 10 ** 40])
        # Below frame 9 it would have been earlier.
        slow, fast = Move((small,), (("back", 9), ("on", 9), ("rate", 3, 1))), Move((small,), (("on", 17),))
        self.assertIsNone(first_earlier(slow, fast))
        self.assertEqual(distances(slow, fast), (1, None))
        self.assertEqual(first_earlier(fast, slow), 9)

    def test_first_frames_of_forty_figures(self):
        most = 10 ** 40
        one, other = Move((small,), (("back", most),)), Move((small,), (("back", most - 5), ("rate", 2, 1)))
        self.assertEqual(distances(one, other), (None, -10))
        self.assertEqual(first_earlier(one, other), most)
        self.assertEqual(first_at(one, other, -11), most + 1)
        self.assertEqual(first_at(one, other, -most), 2 * most - 10)
        self.assertEqual(first_unlike(one, other), most - 5)
        self.assertEqual(times_at(one, other, -11, most + 1), 0)
        self.assertEqual(times_at(one, other, -11, most + 2), 1)


class Growing(unittest.TestCase):
    def test_no_least_or_no_greatest_distance(self):
        one, other = Move((small,), (("rate", 3, 2),)), Move((small,), (("on", 2),))
        self.assertEqual(distances(one, other), (-2, None))
        self.assertEqual(distances(other, one), (None, 2))
        self.assertEqual([first_at(one, other, distance) for distance in (-3, -2, -1, 0, 1, 5)], [None, 0, 2, 4, 6, 14])
        self.assertEqual([times_at(one, other, -2, n) for n in (0, 1, 2, 3, 10 ** 40)], [0, 1, 2, 2, 2])
        over = Move((small, plain), (("read", 1, "next"),))
        self.assertEqual(distances(over, Move((small,))), (1, None))
        self.assertEqual(distances(Move((small,)), over), (None, -1))

    def test_unlike_only_behind_a_round(self):
        # Alike throughout a whole round, but one is further on behind it.
        self.assertEqual(first_unlike(Move((small,)), Move((small,), (("rate", 2, 1),))), 1)
        one, other = Move((small,), (("rate", 1, 100),)), Move((small,), (("rate", 2, 100), ("rate", 1, 2)))
        self.assertIsNone(first_unlike(one, other))
        slow, slower = Move((small,), (("rate", 1, 50),)), Move((small,), (("rate", 1, 100),))
        self.assertEqual(first_unlike(slow, slower), 50)
        # Both stay at frame 0 for 50 frames, and then one goes on twice as far.
        one = Move((small,), (("rate", 1, 50), ("rate", 2, 1)))
        self.assertEqual(first_unlike(slow, one), 50)
        self.assertEqual(first_unlike(Move((small,), (("back", 10 ** 40),)), Move((small,), (("back", 10 ** 40), ("rate", 2, 1)))), 10 ** 40 + 1)

    def test_distances_first_met_at_frames_of_thirty_figures(self):
        double, on = Move((small,), (("rate", 2, 1),)), Move((small,), (("on", 10 ** 30),))
        self.assertEqual(first_at(double, on, 0), 10 ** 30)
        self.assertEqual(first_at(double, on, 10 ** 30), 2 * 10 ** 30)
        self.assertEqual(first_at(double, on, -10 ** 30), 0)
        self.assertIsNone(first_at(double, on, -10 ** 30 - 1))
        self.assertEqual(first_earlier(on, double), 10 ** 30 + 1)
        self.assertEqual(first_earlier(double, on), 0)
        self.assertEqual(times_at(double, on, 5, 10 ** 30 + 5), 0)
        self.assertEqual(times_at(double, on, 5, 10 ** 30 + 6), 1)
        self.assertEqual(times_at(double, on, 5, 10 ** 50), 1)
        self.assertEqual(distances(on, double), (None, 10 ** 30))

    def test_slow_growth(self):
        # By one further in a hundred frames.
        slow, on = Move((small,), (("rate", 100, 99),)), Move((small,), (("on", 10 ** 38),))
        self.assertEqual(first_at(slow, on, 0), 99 * 10 ** 38)
        self.assertEqual(first_earlier(on, slow), 99 * (10 ** 38 + 1))
        self.assertEqual(times_at(slow, on, 0, 10 ** 50), 99)
        self.assertEqual(times_at(slow, on, 0, 99 * 10 ** 38 + 7), 7)
        self.assertEqual(distances(slow, on), (-10 ** 38, None))

    def test_steps_of_the_growth_that_never_meet(self):
        # The distance grows by two, from an even number on.
        one, other = Move((small,), (("rate", 3, 1),)), Move((small,))
        self.assertEqual([first_at(one, other, distance) for distance in (-2, -1, 0, 1, 2, 3, 4)], [None, None, 0, None, 1, None, 2])
        self.assertEqual([first_at(other, one, distance) for distance in (-4, -3, -2, -1, 0, 1, 2)], [2, None, 1, None, 0, None, None])
        self.assertEqual(times_at(one, other, 10 ** 30 + 1, 10 ** 50), 0)
        self.assertEqual(times_at(one, other, 10 ** 30, 10 ** 50), 1)

    def test_dropped_labels(self):
        told, counted = Move((drop,), (("label", 1800, "next"),)), Move((drop,), (("on", 1798),))
        self.assertEqual(distances(told, counted), (0, 2))
        self.assertEqual(first_unlike(told, counted), 0)
        self.assertEqual([first_at(told, counted, distance) for distance in (0, 1, 2, 3, -1)], [2, 1, 0, None, None])
        self.assertIsNone(first_earlier(told, counted))
        apart = [told.of(frame) - counted.of(frame) for frame in range(17982)]
        for distance in (0, 1, 2, 3):
            self.assertEqual(times_at(told, counted, distance, 17982 * 10 ** 30), apart.count(distance) * 10 ** 30)


class Errors(Raising):
    one, other = Move((small,), (("on", 2),)), Move((small,), (("rate", 1, 3),))
    long = (Move((small,), (("rate", 1, 100), ("rate", 1, 100))), Move((small,), (("rate", 1, 3),)))

    CALLS = ((first_unlike, ()), (first_earlier, ()), (distances, ()), (first_at, (1,)), (times_at, (1, 2)))

    def test_no_moves(self):
        others = (0, 1, small, str(self.one), (small,), ((small,), (("on", 2),)), [self.one], Move, "move")
        for given in (*OTHER_KINDS, *TRUTHS, *STRINGS, *TUPLES_OF_INTEGERS, *INTEGERS_BELOW, *others):
            for call, rest in self.CALLS:
                self.assert_given(NotAMove, given, call, given, self.other, *rest)
                self.assert_given(NotAMove, given, call, self.one, given, *rest)

    def test_one_ahead_of_other_ahead_of_numbers(self):
        left, right = object(), object()
        for call, rest in self.CALLS:
            wrong = [None for _ in rest]
            self.assert_given(NotAMove, left, call, left, right, *wrong)
            self.assert_given(NotAMove, right, call, self.one, right, *wrong)
            self.assert_given(NotAMove, left, call, left, self.long[0], *rest)

    def test_distances_of_each_kind(self):
        for given in NO_INTEGERS:
            self.assert_given(InvalidNumber, given, first_at, self.one, self.other, given)
            self.assert_given(InvalidNumber, given, times_at, self.one, self.other, given, 5)
        for distance in (-10 ** 40, -1, 0, 1, 10 ** 40):
            first_at(self.one, self.other, distance)
            times_at(self.one, self.other, distance, 5)

    def test_frames_of_each_kind(self):
        for given in (*NO_INTEGERS, *INTEGERS_BELOW):
            self.assert_given(InvalidNumber, given, times_at, self.one, self.other, 1, given)
        self.assertEqual(times_at(self.one, self.other, 1, 0), 0)

    def test_distance_ahead_of_frame(self):
        left, right = [1], [2]
        self.assert_given(InvalidNumber, left, times_at, self.one, self.other, left, right)
        self.assert_given(InvalidNumber, right, times_at, self.one, self.other, 1, right)

    def test_too_long_behind_all_others(self):
        wrong = object()
        for call, rest in self.CALLS:
            self.assert_too_long(call, *self.long, *rest)
            for at in range(len(rest)):
                self.assert_given(InvalidNumber, wrong, call, *self.long, *rest[:at], wrong, *rest[at + 1:])

    def test_by_position_and_by_name(self):
        one, other = self.one, self.other
        for call in (first_unlike, first_earlier, distances):
            self.assertEqual(call(one=one, other=other), call(one, other))
            self.assertEqual(call(other=other, one=one), call(one, other=other))
        self.assertEqual(first_at(distance=4, other=other, one=one), first_at(one, other, 4))
        self.assertEqual(times_at(frame=30, distance=4, other=other, one=one), times_at(one, other, 4, 30))
        self.assertEqual(times_at(one, other, 4, frame=30), times_at(one, other, distance=4, frame=30))

    def test_the_same_again_is_equal(self):
        told = []
        for _ in range(2):
            one, other = self.one, self.other
            told.append((first_unlike(one, other), first_earlier(other, one), distances(one, other), first_at(one, other, 9), times_at(one, other, 9, 99)))
        self.assertEqual(told[0], told[1])
        self.assertEqual(told[0], (0, 0, (2, None), 10, 1))
        self.assertEqual((str(self.one), str(self.other)), (f"{small}\nmove\non 2", f"{small}\nmove\nrate 1 3"))
        self.assertIs(type(distances(self.one, self.other)), tuple)


if __name__ == "__main__":
    unittest.main()
