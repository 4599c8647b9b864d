"""How far labels and clock drift apart: [14], [2] (Clock)."""

import unittest
from fractions import Fraction
from math import gcd

from plain_houses import DROP, HOUSES, SMALL, plain_round
from plain_moves import FAR, plain_house
from raising import Raising
from wrong_values import INTEGERS_BELOW, OTHER_KINDS, STRINGS, TRUTHS, TUPLES_OF_INTEGERS, Agreeing

from labelmoves.clocks import drift, first_beyond, swing
from labelmoves.errors import InvalidBound, InvalidNumber, InvalidPace, NotAHouse
from labelmoves.houses import House
from labelmoves.moves import Move

MILLION = 10 ** 6

small, drop = House(*SMALL), House(*DROP)

# A house whose labels and frames are the same, and one with short rounds in which the drift goes up and down.
BESIDES = (((3,), ()), ((4,), ((0, 1, 1), (0, 3, 3))), ((9,), ((0, 2, 8),)), ((2, 2, 5), ((1, 1, 2), (0, 2, 0))))


def plain_drift(house, pace, frame):
    """The drift, from the place that the label of the frame has among all labels."""
    told = plain_house(house)
    return Fraction(told.place(told.label(frame)), house[0][-1]) - Fraction(frame * pace[1], pace[0])


def bounding(house):
    """The pace for which the drift is bounded, in lowest terms."""
    groups, frames = plain_round(*house)
    common = gcd(groups, frames)
    return frames // common, groups // common


def paces(house):
    """The pace with a bounded drift, some beside it, and some far from it."""
    frames, seconds = bounding(house)
    told = [(frames, seconds), (2 * frames, 2 * seconds), (frames + 1, seconds), (frames, seconds + 1), (7 * frames - 1, 7 * seconds)]
    return told + [(7 * frames, 7 * seconds + 1), (1, 1), (30000, 1001), (1, 7), (50, 2), (house[0][-1], 1)]


def as_pair(fraction):
    return fraction.numerator, fraction.denominator


class Drifts(Raising):
    def assert_drift(self, house, pace, frame):
        told = drift(House(*house), pace, frame)
        self.assertEqual(told, as_pair(plain_drift(house, pace, frame)))
        self.assertIs(type(told), tuple)
        self.assertEqual([type(number) for number in told], [int, int])

    def test_frame_by_frame(self):
        for house in (SMALL, *BESIDES, *HOUSES[:12]):
            for pace in paces(house):
                for frame in (*range(40), *range(FAR, FAR + 5), 10 ** 40):
                    self.assert_drift(house, pace, frame)

    def test_lowest_terms_negative_ones_and_nought(self):
        self.assertEqual(drift(House((2, 3)), (3, 1), 7), (0, 1))
        self.assertEqual(drift(House((2, 3)), (3, 2), 0), (0, 1))
        self.assertEqual(drift(House((2, 3)), (3, 2), 1), (-1, 3))
        self.assertEqual(drift(House((2, 3)), (3, 2), 3), (-1, 1))
        self.assertEqual(drift(House((2, 3)), (3, 2), 6), (-2, 1))
        self.assertEqual(drift(House((2, 4)), (6, 1), 2), (1, 6))
        self.assertEqual(drift(House((2, 4)), (6, 2), 3), (-1, 4))
        self.assertEqual(drift(House((2, 4)), (MILLION, MILLION), 4), (-3, 1))
        self.assertEqual(drift(House((2, 4)), (MILLION, 1), 8 * MILLION), (2 * MILLION - 8, 1))
        self.assertEqual(drift(House((2, 4)), (1, MILLION), 4 * FAR), (FAR - 4 * FAR * MILLION, 1))

    def test_dropped(self):
        self.assertEqual(drift(drop, (30000, 1001), 0), (0, 1))
        self.assertEqual(drift(drop, (30000, 1001), 1800), (1, 150))
        self.assertEqual(drift(drop, (30000, 1001), 1799), (-1799, 30000))
        self.assertEqual(drift(drop, (30, 1), 17982 * FAR), as_pair(Fraction(18 * FAR, 30)))
        self.assertEqual(drift(drop, (2997, 100), 17982 * FAR), (0, 1))


class Swings(Raising):
    def test_against_the_drifts_one_by_one(self):
        for house in (SMALL, *BESIDES, *HOUSES):
            pace = bounding(house)
            if max(pace) > MILLION:
                continue
            frames = plain_round(*house)[1]
            told = [plain_drift(house, pace, frame) for frame in range(frames)]
            least, greatest = min(told), max(told)
            self.assertEqual(
                swing(House(*house), pace), (as_pair(least), told.index(least), as_pair(greatest), told.index(greatest)), house,
            )
            # Nothing else comes later.
            for frame in (*range(frames, frames + 30), FAR, 10 ** 40):
                self.assertTrue(least <= plain_drift(house, pace, frame) <= greatest)

    def test_exactly_if_the_drift_is_bounded(self):
        for house in (SMALL, *BESIDES, *HOUSES):
            groups, frames = plain_round(*house)
            for pace in paces(house):
                if max(pace) <= MILLION:
                    bounded = plain_drift(house, pace, 0) == plain_drift(house, pace, frames)
                    self.assertEqual(swing(House(*house), pace) is not None, bounded)

    def test_constant_drift_has_its_least_frame(self):
        self.assertEqual(swing(House((2, 3)), (3, 1)), ((0, 1), 0, (0, 1), 0))
        self.assertEqual(swing(House((2, 3)), (MILLION - 1, (MILLION - 1) // 3)), ((0, 1), 0, (0, 1), 0))
        self.assertEqual(swing(House((2, 3), ((1, 1, 1),)), (2, 1)), ((1, 6), 1, (1, 3), 0))
        self.assertEqual(swing(House((5,), ((0, 1, 4),)), (1, 1)), ((4, 5), 0, (4, 5), 0))

    def test_dropped(self):
        told = [plain_drift(DROP, (2997, 100), frame) for frame in range(17982)]
        least, greatest = min(told), max(told)
        self.assertEqual(swing(drop, (2997, 100)), (as_pair(least), told.index(least), as_pair(greatest), told.index(greatest)))
        self.assertIsNone(swing(drop, (30000, 1001)))
        self.assertIsNone(swing(drop, (30, 1)))
        self.assertEqual(swing(House((60, 60, 25)), (25, 1)), ((0, 1), 0, (0, 1), 0))

    def test_of_many_groups(self):
        house = House((60, 60, 30), ((0, 2, 6),))
        groups, frames = house.round
        self.assertEqual((groups, frames), (7200, 215994))
        common = gcd(groups, frames)
        least, at, greatest, beside = swing(house, (frames // common, groups // common))
        self.assertEqual((drift(house, (35999, 1200), at), drift(house, (35999, 1200), beside)), (least, greatest))
        self.assertEqual((greatest, beside), ((1, 5), 0))
        self.assertEqual(at, frames - 1)


class Beyond(Raising):
    def assert_least(self, house, pace, bound, frame):
        """It is beyond, and no frame below it is, asked in the first round and in the one just ahead."""
        most, frames = Fraction(*bound), plain_round(*house)[1]
        self.assertGreater(abs(plain_drift(house, pace, frame)), most)
        asked = range(frame) if frame <= 3 * frames else (*range(frames), *range(frame - frames, frame))
        self.assertFalse([n for n in asked if abs(plain_drift(house, pace, n)) > most])

    def test_frame_by_frame(self):
        for house in (SMALL, *BESIDES, *HOUSES[:11]):
            told_house, frames = House(*house), plain_round(*house)[1]
            for pace in paces(house):
                told = [abs(plain_drift(house, pace, frame)) for frame in range(3 * frames)]
                bounded = plain_drift(house, pace, 0) == plain_drift(house, pace, frames)
                bounds = {Fraction(0), Fraction(1, 3), Fraction(7, 2), max(told), min(told), *told[::1 + len(told) // 9]}
                for bound in bounds:
                    beyond = [frame for frame, number in enumerate(told) if number > bound]
                    frame = first_beyond(told_house, pace, as_pair(bound))
                    if beyond or bounded:
                        self.assertEqual(frame, beyond[0] if beyond else None)
                    else:
                        self.assert_least(house, pace, as_pair(bound), frame)

    def test_bounds_that_are_just_met_are_not_above(self):
        house = House((2, 3))
        self.assertEqual(first_beyond(house, (3, 2), (1, 3)), 2)
        self.assertEqual(first_beyond(house, (3, 2), (333, 1000)), 1)
        self.assertEqual(first_beyond(house, (3, 2), (0, 1)), 1)
        self.assertEqual(first_beyond(house, (3, 2), (1, 1)), 4)
        self.assertIsNone(first_beyond(house, (3, 1), (0, 1)))
        self.assertEqual(first_beyond(small, (5, 2), (0, 1)), 0)
        self.assertEqual(first_beyond(small, (5, 2), (333, 1000)), 0)
        self.assertIsNone(first_beyond(small, (5, 2), (167, 500)))

    def test_both_directions(self):
        # The labels fall behind the clock, or run ahead of it.
        self.assertEqual(first_beyond(House((2, 3)), (3, 2), (10, 1)), 31)
        self.assertEqual(first_beyond(House((2, 3)), (6, 1), (10, 1)), 61)
        # Ahead at first, and behind in the end.
        late = ((2, 5), ((0, 60, 4),))
        self.assertEqual(plain_drift(late, (5, 2), 0), Fraction(4, 5))
        for bound in ((0, 1), (3, 5), (4, 5), (2, 1), (9, 1)):
            self.assert_least(late, (5, 2), bound, first_beyond(House(*late), (5, 2), bound))
        self.assertEqual(first_beyond(House(*late), (5, 2), (3, 5)), 0)

    def test_frames_of_thirty_figures(self):
        # Each frame brings the clock ahead by one second divided by 999998.
        for bound, frame in (((10 ** 30, 1), 999998 * 10 ** 30 + 1), ((10 ** 30, 7), 999998 * 10 ** 30 // 7 + 1), ((10 ** 40, 1), 999998 * 10 ** 40 + 1)):
            self.assertEqual(first_beyond(House((2, 2)), (999998, 500000), bound), frame)
        for bound in ((10 ** 30, 1), (10 ** 30 + 1, 3), (10 ** 40, 10 ** 40 - 1)):
            for house in (DROP, SMALL):
                for pace in ((30000, 1001), (30, 1), (29, 1), (5, 3), (MILLION, MILLION - 1)):
                    self.assert_least(house, pace, bound, first_beyond(House(*house), pace, bound))

    def test_slow_drift_of_dropped_labels(self):
        frame = first_beyond(drop, (30000, 1001), (1, 1))
        self.assert_least(DROP, (30000, 1001), (1, 1), frame)
        self.assertGreater(frame, 10 ** 6)
        self.assertEqual(first_beyond(drop, (30, 1), (0, 1)), 1800)
        self.assertEqual(first_beyond(drop, (30, 1), (1, 15)), 3598)

    def test_of_many_groups(self):
        house = ((60, 60, 30), ((0, 2, 6),))
        for pace, bound in (((35999, 1200), (1, 5)), ((35999, 1200), (1, 6)), ((30, 1), (10 ** 30, 1))):
            told = first_beyond(House(*house), pace, bound)
            if bound == (1, 5):
                self.assertIsNone(told)
            else:
                self.assertGreater(abs(plain_drift(house, pace, told)), Fraction(*bound))
                self.assertLessEqual(abs(plain_drift(house, pace, max(0, told - 1))), Fraction(*bound) if told else 1)


class Errors(Raising):
    PACES = (
        None, (), (5,), (5, 2, 1), [5, 2], {5: 2}, "52", "5 2", 5, (0, 2), (5, 0), (-1, 2), (5, -1), (MILLION + 1, 2), (5, MILLION + 1),
        (True, 2), (5, True), ("5", 2), (5, "2"), (5, None), (None, 2), ((5, 2),), ((5,), 2), (5, (2,)), ([5], 2), (5, Agreeing()), (10 ** 40, 1),
    )
    BOUNDS = (
        None, (), (5,), (5, 2, 1), [5, 2], {5: 2}, "52", "1/2", 5, 0, (0, 0), (5, 0), (-1, 2), (1, -2), (-1, -2), (2, 4), (0, 2), (10, 5),
        (5, 5), (10 ** 40, 10 ** 39), (True, 2), (False, 1), (5, True), ("5", 2), (5, "2"), (None, 1), (5, None), ((5, 2),), ((5,), 2),
        (5, (2,)), ([5], 2), (5, Agreeing()), (Agreeing(), 1), (-10 ** 40, 1), (0, -1),
    )

    def test_no_houses(self):
        move = Move((small,))
        for given in (*OTHER_KINDS, *TRUTHS, *STRINGS, *TUPLES_OF_INTEGERS, *INTEGERS_BELOW, 0, 5, str(small), [small], (small,), move, SMALL):
            self.assert_given(NotAHouse, given, drift, given, (5, 2), 0)
            self.assert_given(NotAHouse, given, swing, given, (5, 2))
            self.assert_given(NotAHouse, given, first_beyond, given, (5, 2), (1, 3))

    def test_paces(self):
        others = [value for value in TUPLES_OF_INTEGERS if value != (2, 3)]
        for given in (*self.PACES, *OTHER_KINDS, *TRUTHS, *STRINGS, *others, *INTEGERS_BELOW, small):
            self.assert_given(InvalidPace, given, drift, small, given, 0)
            self.assert_given(InvalidPace, given, swing, small, given)
            self.assert_given(InvalidPace, given, first_beyond, small, given, (1, 3))
        for pace in ((1, 1), (MILLION, MILLION), (1, MILLION), (MILLION, 1)):
            self.assertEqual(drift(small, pace, 0), (1, 3))

    def test_frames(self):
        for given in (*OTHER_KINDS, *TRUTHS, *STRINGS, *TUPLES_OF_INTEGERS, *INTEGERS_BELOW, small):
            self.assert_given(InvalidNumber, given, drift, small, (5, 2), given)

    def test_bounds(self):
        others = [value for value in TUPLES_OF_INTEGERS if value != (2, 3)]
        for given in (*self.BOUNDS, *OTHER_KINDS, *TRUTHS, *STRINGS, *others, *INTEGERS_BELOW, small):
            self.assert_given(InvalidBound, given, first_beyond, small, (5, 2), given)
        for bound in ((0, 1), (1, 1), (1, 10 ** 40), (10 ** 40, 1), (10 ** 40, 10 ** 40 - 1), (2, 3)):
            first_beyond(small, (5, 2), bound)

    def test_house_ahead_of_pace_ahead_of_the_last(self):
        house, pace, last = object(), [5, 2], -1
        self.assert_given(NotAHouse, house, drift, house, pace, last)
        self.assert_given(InvalidPace, pace, drift, small, pace, last)
        self.assert_given(NotAHouse, house, swing, house, pace)
        self.assert_given(NotAHouse, house, first_beyond, house, pace, last)
        self.assert_given(InvalidPace, pace, first_beyond, small, pace, last)

    def test_by_position_and_by_name(self):
        self.assertEqual(drift(frame=4, pace=(5, 2), house=small), drift(small, (5, 2), 4))
        self.assertEqual(swing(pace=(5, 2), house=small), swing(small, (5, 2)))
        self.assertEqual(first_beyond(bound=(1, 4), pace=(5, 2), house=small), first_beyond(small, (5, 2), (1, 4)))
        self.assertEqual(first_beyond(small, (5, 2), bound=(1, 4)), first_beyond(small, pace=(5, 2), bound=(1, 4)))

    def test_the_same_again_is_equal(self):
        told = [(drift(drop, (30, 1), 99), swing(drop, (2997, 100)), first_beyond(drop, (30, 1), (99, 1))) for _ in range(2)]
        self.assertEqual(told[0], told[1])
        self.assertEqual(str(drop), "house 60 60 30\nskip 1 1 2\nskip 1 10 0")
        self.assertIs(type(told[0][1]), tuple)


if __name__ == "__main__":
    unittest.main()
