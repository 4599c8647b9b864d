"""Where moves lead, and which frames they lose: [10], [2]."""

import unittest

from plain_houses import DROP
from plain_moves import FAMILIES, FAR, PLAIN, SMALL, made, plain_first, plain_through, plain_value, random_moves

from labelmoves.houses import House
from labelmoves.moves import Move

small, plain = House(*SMALL), House(*PLAIN)
drop, full = House(*DROP), House((60, 60, 30))


def all_single_steps(houses):
    """Each kind of step, with small numbers."""
    for amount in range(15):
        yield from (("on", amount), ("back", amount))
        for way in ("next", "last"):
            yield from (("label", amount, way), ("unlabel", amount, way))
    for field in range(len(houses[0][0])):
        yield from (("to", field), ("after", field))
    for number in range(len(houses)):
        yield from (("call", number), ("read", number, "next"), ("read", number, "last"))
    for factor in (1, 2, 3, 7, 99, 100):
        yield from (("rate", factor, divisor) for divisor in (1, 2, 3, 5, 100))


class Values(unittest.TestCase):
    def assert_values(self, houses, steps, frames):
        move = made(houses, steps)
        for frame in frames:
            self.assertEqual(move.of(frame), plain_value(houses, steps, frame), (houses, steps, frame))

    def test_each_step_for_small_and_far_frames(self):
        for family in FAMILIES:
            for start in range(len(family)):
                houses = (family[start:] + family[:start])[:3]
                for step in all_single_steps(houses):
                    self.assert_values(houses, (step,), (*range(45), FAR, FAR + 1, 10 ** 40, 10 ** 30 * 2 + 5))

    def test_many_steps_for_small_and_far_frames(self):
        for houses, steps in random_moves("values", 400):
            behind = plain_first(houses, steps) + 2 * plain_through((houses, steps)) + 2
            self.assert_values(houses, steps, (*range(behind), *range(FAR, FAR + 7), 10 ** 40, 10 ** 59 + 3))

    def test_no_steps(self):
        for frame in (0, 1, 99, 10 ** 40):
            self.assertEqual(Move((small,)).of(frame), frame)
            self.assertEqual(Move((small, plain, drop)).of(frame), frame)

    def test_greatest_amounts(self):
        most = 10 ** 40
        self.assertEqual(Move((small,), (("on", most),) * 8).of(3), 8 * most + 3)
        back = Move((small,), (("back", most),))
        self.assertEqual([back.of(most - 1), back.of(most), back.of(most + 9)], [None, 0, 9])
        label = Move((small,), (("label", 6 * 10 ** 39, "next"),))
        self.assertEqual([label.of(0), label.of(7)], [5 * 10 ** 39, 5 * 10 ** 39 + 7])
        self.assertEqual(Move((small,), (("label", most, "next"),)).of(2), small.at(most + 3, "next"))
        away = Move((small,), (("unlabel", 6 * 10 ** 39, "last"),))
        self.assertEqual([away.of(5 * 10 ** 39 - 1), away.of(5 * 10 ** 39), away.of(5 * 10 ** 39 + 7)], [None, 0, 7])

    def test_rates(self):
        self.assertEqual([Move((small,), (("rate", 3, 2),)).of(n) for n in range(6)], [0, 1, 3, 4, 6, 7])
        self.assertEqual([Move((small,), (("rate", 2, 3),)).of(n) for n in range(7)], [0, 0, 1, 2, 2, 3, 4])
        self.assertEqual(Move((small,), (("rate", 100, 1),) * 8).of(3), 3 * 10 ** 16)
        self.assertEqual(Move((small,), (("rate", 1, 100), ("rate", 1, 100))).of(10 ** 40 - 1), 10 ** 36 - 1)
        # Each rate rounds by itself.
        self.assertEqual(Move((small,), (("rate", 1, 2), ("rate", 2, 1))).of(7), 6)
        self.assertEqual(Move((small,), (("rate", 2, 2),)).of(7), 7)


class Lost(unittest.TestCase):
    def test_also_if_a_later_step_leads_up_again(self):
        move = Move((small,), (("back", 3), ("on", 10)))
        self.assertEqual([move.of(n) for n in range(5)], [None, None, None, 10, 11])
        move = Move((small,), (("unlabel", 2, "next"), ("label", 9, "next")))
        self.assertEqual([move.of(n) for n in range(4)], [None, 8, 8, 9])
        move = Move((small,), (("on", 1), ("back", 3), ("on", 2)))
        self.assertEqual([move.of(n) for n in range(4)], [None, None, 2, 3])
        move = Move((small,), (("back", 5), ("rate", 100, 1), ("on", 10 ** 40)))
        self.assertEqual([move.of(4), move.of(5)], [None, 10 ** 40])

    def test_below_the_label_with_place_nought(self):
        # Frame 0 bears the label with place 1, and place 0 is skipped.
        for way, values in (("next", [0, 0, 1]), ("last", [None, 0, 1])):
            move = Move((small,), (("unlabel", 1, way),))
            self.assertEqual([move.of(n) for n in range(3)], values)
        for way in ("next", "last"):
            self.assertEqual(Move((small,), (("unlabel", 2, way),)).of(0), None)
        self.assertEqual(Move((plain,), (("unlabel", 1, "next"),)).of(0), None)

    def test_no_last_frame(self):
        late = House((2, 5), ((0, 1, 4),))
        move = Move((late,), (("unlabel", 2, "last"),))
        self.assertEqual([late.place(n) for n in range(4)], [4, 5, 6, 7])
        self.assertEqual([move.of(n) for n in range(4)], [None, None, 0, 1])
        move = Move((House((2, 5)), late), (("read", 1, "last"),))
        self.assertEqual([move.of(n) for n in range(6)], [None, None, None, None, 0, 1])
        move = Move((House((2, 5)), late), (("read", 1, "next"),))
        self.assertEqual([move.of(n) for n in range(6)], [0, 0, 0, 0, 0, 1])
        move = Move((House((2, 5)), late), (("read", 1, "last"), ("on", 100)))
        self.assertEqual([move.of(3), move.of(4)], [None, 100])

    def test_no_frame_behind_one_that_is_not_lost(self):
        for houses, steps in random_moves("lost", 100):
            move = made(houses, steps)
            values = [move.of(frame) for frame in range(move.first + 30)]
            self.assertEqual(values[:move.first], [None] * move.first)
            self.assertNotIn(None, values[move.first:])
            self.assertEqual(values[move.first:], sorted(values[move.first:]))


class UnitsAndReadings(unittest.TestCase):
    def test_unit_that_bears_no_frame_from_its_beginning_on(self):
        house = House((2, 5), ((0, 1, 3),))
        self.assertEqual([house.label(n) for n in (0, 1, 2, 7)], [(0, 0, 3), (0, 0, 4), (0, 1, 0), (1, 0, 3)])
        for field, to, after in ((0, [0, 0, 0, 0, 0, 0, 0, 7, 7], [7] * 7 + [14] * 2), (1, [0, 0, 2, 2, 2, 2, 2, 7, 7], [2, 2, 7, 7, 7, 7, 7, 9, 9])):
            self.assertEqual([Move((house,), (("to", field),)).of(n) for n in range(9)], to)
            self.assertEqual([Move((house,), (("after", field),)).of(n) for n in range(9)], after)

    def test_dropped_minutes(self):
        to, after = (Move((drop,), ((word, 1),)) for word in ("to", "after"))
        self.assertEqual([to.of(n) for n in (0, 1799, 1800, 1801, 3597, 3598, 17981, 17982)], [0, 0, 1800, 1800, 1800, 3598, 16184, 17982])
        self.assertEqual([after.of(n) for n in (0, 1799, 1800, 3597, 3598, 17981, 17982)], [1800, 1800, 3598, 3598, 5396, 17982, 19782])
        self.assertEqual(to.of(17982 * FAR + 1900), 17982 * FAR + 1800)

    def test_dropped_seconds(self):
        self.assertEqual(Move((drop,), (("to", 2),)).of(1805), 1800)
        self.assertEqual(Move((drop,), (("to", 2),)).of(1829), 1828)
        self.assertEqual(Move((drop,), (("after", 2),)).of(1800), 1828)

    def test_dropped_labels_told(self):
        minute = Move((drop,), (("label", 1800, "next"),))
        self.assertEqual([drop.written(minute.of(n)) for n in (0, 5, 1800, 8 * 1798 + 2)], ["0:01:00:02", "0:01:00:05", "0:02:00:02", "0:09:00:02"])
        self.assertEqual(Move((drop,), (("label", 1800, "last"),)).of(0), 1799)
        self.assertEqual(Move((drop,), (("unlabel", 1, "last"),)).of(1800), 1799)
        self.assertEqual(Move((drop,), (("unlabel", 1, "next"),)).of(1800), 1800)

    def test_readings_of_dropped_labels(self):
        there = Move((full, drop), (("read", 1, "next"),))
        self.assertEqual([there.of(n) for n in (1799, 1800, 1801, 1802, 18000)], [1799, 1800, 1800, 1800, 17982])
        there = Move((full, drop), (("read", 1, "last"),))
        self.assertEqual([there.of(n) for n in (1799, 1800, 1801, 1802, 18000)], [1799, 1799, 1799, 1800, 17982])
        back = Move((drop, full), (("read", 1, "last"),))
        self.assertEqual([back.of(n) for n in (1799, 1800, 17982, 17982 * FAR + 1)], [1799, 1802, 18000, 18000 * FAR + 1])

    def test_call_keeps_the_number(self):
        move = Move((full, drop), (("call", 1), ("to", 1), ("call", 0), ("on", 3)))
        self.assertEqual([move.of(n) for n in (1799, 1800, 3597, 3598)], [3, 1803, 1803, 3601])
        move = Move((plain, small), (("to", 0), ("call", 1), ("to", 0)))
        self.assertEqual([move.of(n) for n in (5, 6, 11, 12, 30)], [0, 5, 5, 10, 30])
        self.assertEqual(Move((small, House((7,))), (("call", 1),)).of(FAR), FAR)

    def test_read_into_the_same_house(self):
        for way in ("next", "last"):
            move = Move((small,), (("read", 0, way),))
            self.assertEqual([move.of(n) for n in range(12)], list(range(12)))


if __name__ == "__main__":
    unittest.main()
