"""Frames, labels and places: [2] (Labels), [5], [6], [7], and `House.at`."""

import unittest

from plain_houses import DROP, HOUSES, SMALL, groups_summed, is_skipped, labels_below, repeating_units
from wrong_values import INTEGERS_BELOW, OTHER_KINDS, STRINGS, TRUTHS, TUPLES_OF_INTEGERS

from labelmoves.errors import InvalidLabel, InvalidNumber, InvalidWay
from labelmoves.houses import House

FAR = 10 ** 40 + 7 ** 30


def walked(bases, rows):
    """Label by label of two whole rounds: its place, the label, and whether it is skipped."""
    labels = labels_below(bases, 2 * repeating_units(bases, rows))
    return [(place, label, is_skipped(rows, label)) for place, label in enumerate(labels)]


class FramesAndLabels(unittest.TestCase):
    def test_label_by_label(self):
        for bases, rows in (*HOUSES, ((60, 2), ((0, 20, 1), (1, 59, 1)))):
            with self.subTest(bases=bases, rows=rows):
                house = House(bases, rows)
                frame = 0
                for place, label, skipped in walked(bases, rows):
                    if skipped:
                        self.assertIsNone(house.frame(label))
                    else:
                        self.assertEqual(house.frame(label), frame)
                        self.assertEqual(house.label(frame), label)
                        self.assertEqual(house.place(frame), place)
                        frame += 1

    def test_at_place_by_place(self):
        for bases, rows in HOUSES:
            with self.subTest(bases=bases, rows=rows):
                house = House(bases, rows)
                last, following = None, 0
                for place, _, skipped in walked(bases, rows):
                    if not skipped:
                        last, following = following, following + 1
                    self.assertEqual(house.at(place, "last"), last)
                    self.assertEqual(house.at(place, "next"), following if skipped else last)

    def test_dropped_frames(self):
        house = House(*DROP)
        minutes, borne = 0, 0
        while minutes < 25:
            first = 0 if minutes % 10 == 0 else 2
            self.assertEqual(house.frame((0, minutes, 0, first)), borne)
            self.assertEqual(house.label(borne), (0, minutes, 0, first))
            self.assertEqual(house.frame((0, minutes, 0, 0)), None if first else borne)
            self.assertEqual(house.frame((0, minutes, 0, 1)), None if first else borne + 1)
            self.assertEqual(house.label(borne + 1799 - first), (0, minutes, 59, 29))
            borne += 1800 - first
            minutes += 1

    def test_nothing_skipped(self):
        for bases in ((2,), (7, 3), (60, 60, 25)):
            house = House(bases)
            for frame in (0, 1, 59, 60, 5999, 10 ** 40, FAR):
                self.assertEqual(house.place(frame), frame)
                self.assertEqual(house.at(frame, "next"), frame)
                self.assertEqual(house.at(frame, "last"), frame)
        self.assertEqual(House((60, 60, 25)).label(25 * 3661 + 3), (1, 1, 1, 3))

    def test_number_nought_is_unbounded(self):
        house = House((2, 3))
        self.assertEqual(house.label(6 * 10 ** 40), (10 ** 40, 0, 0))
        self.assertEqual(house.frame((10 ** 40, 1, 2)), 6 * 10 ** 40 + 5)
        self.assertEqual(House((60,)).label(60 * FAR + 59), (FAR, 59))

    def test_far_out(self):
        for bases, rows in HOUSES:
            with self.subTest(bases=bases, rows=rows):
                house = House(bases, rows)
                units = repeating_units(bases, rows)
                labels = labels_below(bases, units)
                frames = sum(not is_skipped(rows, label) for label in labels)
                for label in labels[::max(1, len(labels) // 200)]:
                    frame, place = house.frame(label), labels.index(label)
                    far = (label[0] + FAR * units, *label[1:])
                    if frame is None:
                        self.assertIsNone(house.frame(far))
                        following = house.at(place, "next") + FAR * frames
                        self.assertEqual(house.at(place + FAR * len(labels), "next"), following)
                        self.assertEqual(house.at(place + FAR * len(labels), "last"), following - 1)
                    else:
                        self.assertEqual(house.frame(far), frame + FAR * frames)
                        self.assertEqual(house.label(frame + FAR * frames), far)
                        self.assertEqual(house.place(frame + FAR * frames), place + FAR * len(labels))
                        for way in ("next", "last"):
                            self.assertEqual(house.at(place + FAR * len(labels), way), frame + FAR * frames)

    def test_there_and_back(self):
        for bases, rows in HOUSES:
            house = House(bases, rows)
            for frame in (0, 1, 2, 3, 1000, 10 ** 39 - 1, 10 ** 40, FAR, 10 ** 60 - 1, 10 ** 70):
                self.assertEqual(house.frame(house.label(frame)), frame)
                self.assertEqual(house.at(house.place(frame), "next"), frame)
                self.assertEqual(house.at(house.place(frame), "last"), frame)
                self.assertLess(house.place(frame), house.place(frame + 1))
                self.assertIs(type(house.label(frame)), tuple)

    def test_the_last_row_that_fits_decides(self):
        self.assertEqual(House((9,), ((0, 1, 5), (0, 2, 1))).label(0), (0, 1))
        self.assertEqual(House((9,), ((0, 2, 1), (0, 1, 5))).label(0), (0, 5))
        self.assertEqual(House((9,), ((0, 1, 5), (0, 1, 0))).label(0), (0, 0))
        self.assertEqual(House((9,), ((0, 1, 5), (0, 2, 0), (0, 4, 2))).label(0), (0, 2))
        self.assertEqual(House((9,), ((0, 1, 5), (0, 2, 0), (0, 4, 2))).label(7 + 4), (2, 0))

    def test_only_the_first_group_of_a_unit_is_fitted(self):
        house = House((4, 5, 6), ((0, 1, 3),))
        self.assertEqual([house.frame((1, 0, 0, n)) for n in range(6)], [None, None, None, 117, 118, 119])
        self.assertEqual([house.frame((1, 0, n, 0)) for n in range(3)], [None, 120, 126])
        self.assertEqual([house.frame((1, n, 0, 0)) for n in range(3)], [None, 144, 174])
        house = House((4, 5, 6), ((1, 2, 3),))
        self.assertEqual([house.frame((0, n, 0, 0)) is None for n in range(4)], [True, False, True, False])
        self.assertEqual([house.frame((0, 2, n, 0)) is None for n in range(5)], [True, False, False, False, False])
        self.assertEqual([house.frame((0, 2, 0, n)) is None for n in range(6)], [True, True, True, False, False, False])

    def test_below_the_first_borne_label(self):
        house = House((3, 5), ((1, 1, 4),))
        self.assertEqual([house.at(place, "last") for place in range(11)], [None] * 4 + [0] * 5 + [1, 1])
        self.assertEqual([house.at(place, "next") for place in range(11)], [0] * 5 + [1] * 5 + [2])


class WrongCalls(unittest.TestCase):
    def assert_given(self, error, given, call, *others):
        with self.assertRaises(error) as caught:
            call(given, *others)
        self.assertIs(type(caught.exception), error)
        self.assertIs(caught.exception.given, given)

    def test_frames_and_places(self):
        house = House(*SMALL)
        wrong = (*OTHER_KINDS, *TRUTHS, *STRINGS, *TUPLES_OF_INTEGERS, *INTEGERS_BELOW, house)
        for given in wrong:
            self.assert_given(InvalidNumber, given, house.label)
            self.assert_given(InvalidNumber, given, house.place)
            self.assert_given(InvalidNumber, given, house.written)
            self.assert_given(InvalidNumber, given, house.at, "next")

    def test_ways(self):
        house = House(*SMALL)
        wrong = (*OTHER_KINDS, *TRUTHS, *STRINGS, *TUPLES_OF_INTEGERS, *INTEGERS_BELOW, 0, 1, house, ("next",), ["last"])
        for given in wrong:
            for place in (0, 1, 6, 10 ** 40):
                self.assert_given(InvalidWay, given, lambda way: house.at(place, way))

    def test_place_ahead_of_way(self):
        self.assert_given(InvalidNumber, -1, House(*SMALL).at, "first")
        self.assert_given(InvalidNumber, None, House(*SMALL).at, None)

    def test_labels(self):
        bases = (4, 10, 60)
        house = House(bases, ((1, 1, 2),))
        self.assertEqual(house.frame((0, 3, 9, 59)), 2391)
        for given in (
            (0, 4, 0, 0), (0, 0, 10, 0), (0, 0, 0, 60), (10 ** 40, 4, 0, 0), (0, 0, 0, 10 ** 40), (-1, 0, 0, 0),
            (0, -1, 0, 0), (0, 0, -1, 0), (0, 0, 0, -1), (0, 0, 0), (0, 0, 0, 0, 0), (), (0,), [0, 0, 0, 0],
            (0, 0, 0, "0"), ((0, 0, 0, 0),), "0:0:0:00", "0000",
        ):
            self.assert_given(InvalidLabel, given, house.frame)

    def test_labels_of_each_kind(self):
        for bases, rows in HOUSES:
            house = House(bases, rows)
            good = (0,) * (len(bases) + 1)
            for given in (*OTHER_KINDS, *TRUTHS, *STRINGS, *INTEGERS_BELOW, 0, 5, house, list(good), good[1:], good + (0,)):
                self.assert_given(InvalidLabel, given, house.frame)
            for at in range(len(good)):
                for wrong in (*OTHER_KINDS, *TRUTHS, *STRINGS, *TUPLES_OF_INTEGERS, *INTEGERS_BELOW):
                    self.assert_given(InvalidLabel, good[:at] + (wrong,) + good[at + 1:], house.frame)

    def test_each_number_of_a_label_has_its_own_base(self):
        for bases, rows in HOUSES:
            house = House(bases, rows)
            greatest = (10 ** 40, *[base - 1 for base in bases])
            self.assertIsInstance(house.frame(greatest), int)
            for at, base in enumerate(bases, start=1):
                self.assert_given(InvalidLabel, greatest[:at] + (base,) + greatest[at + 1:], house.frame)

    def test_houses_stay_as_they_are_after_errors(self):
        house = House(*SMALL)
        for call in (house.label, house.place, house.written, house.frame, house.spoken):
            with self.assertRaises(ValueError):
                call(None)
        self.assertEqual((house.label(5), str(house), house.round), ((1, 0, 1), "house 2 3\nskip 0 1 1", (2, 5)))

    def test_sums_of_the_houses_asked_here(self):
        self.assertTrue(all(groups_summed(bases, rows) <= 7200 for bases, rows in HOUSES))


if __name__ == "__main__":
    unittest.main()
