"""The first frame and the round of a move: [11]."""

import unittest

from plain_houses import DROP
from plain_moves import PLAIN, SMALL, made, plain_first, plain_through, plain_value, random_moves

from labelmoves.houses import House
from labelmoves.moves import Move

small, plain = House(*SMALL), House(*PLAIN)
drop, full = House(*DROP), House((60, 60, 30))


class Firsts(unittest.TestCase):
    def assert_first(self, first, houses, steps):
        move = Move(houses, steps)
        self.assertEqual(move.first, first)
        self.assertIsNotNone(move.of(first))
        if first > 0:
            self.assertIsNone(move.of(first - 1))

    def test_against_all_frames_below(self):
        for houses, steps in random_moves("firsts", 300):
            self.assertEqual(made(houses, steps).first, plain_first(houses, steps), (houses, steps))

    def test_no_frame_is_lost(self):
        for steps in ((), (("on", 3),), (("back", 0),), (("label", 3, "last"),), (("to", 0),), (("after", 1),), (("rate", 1, 7),)):
            self.assert_first(0, (small,), steps)

    def test_frames_of_forty_figures(self):
        most = 10 ** 40
        self.assert_first(most, (small,), (("back", most),))
        self.assert_first(8 * most, (small,), (("back", most),) * 8)
        self.assert_first(most + 1, (small,), (("on", 5), ("back", most), ("back", 6)))
        self.assert_first(most - 1, (small,), (("on", 1), ("back", most)))
        self.assert_first(0, (small,), (("on", most), ("back", most)))
        self.assert_first(5 * 10 ** 39, (small,), (("unlabel", 6 * 10 ** 39, "last"),))
        self.assert_first(5 * 10 ** 39, (small,), (("unlabel", 6 * 10 ** 39 + 1, "next"),))
        self.assert_first(18000 * 10 ** 30, (full, drop), (("read", 1, "next"), ("back", 17982 * 10 ** 30)))
        self.assert_first(17982 * 10 ** 30, (drop, full), (("read", 1, "next"), ("back", 18000 * 10 ** 30)))

    def test_rates(self):
        most = 10 ** 40
        self.assert_first(100 * most, (small,), (("rate", 1, 100), ("back", most)))
        self.assert_first(10 ** 44, (small,), (("rate", 1, 100), ("rate", 1, 100), ("back", most)))
        self.assert_first(10 ** 38, (small,), (("rate", 100, 1), ("back", most)))
        self.assert_first(10 ** 38 + 1, (small,), (("back", 1), ("rate", 100, 1), ("back", most)))
        self.assert_first(3333, (small,), (("rate", 3, 1), ("back", 9999)))
        self.assert_first(3334, (small,), (("rate", 3, 1), ("back", 10000)))
        self.assert_first(3334, (small,), (("rate", 3, 1), ("back", 10001)))
        self.assert_first(6668, (small,), (("rate", 3, 2), ("back", 10002)))
        self.assert_first(6667, (small,), (("rate", 3, 2), ("back", 10000)))

    def test_units(self):
        self.assert_first(5, (small,), (("to", 0), ("back", 1)))
        self.assert_first(5, (small,), (("to", 0), ("back", 5)))
        self.assert_first(10, (small,), (("to", 0), ("back", 6)))
        self.assert_first(0, (small,), (("after", 0), ("back", 5)))
        self.assert_first(5, (small,), (("after", 0), ("back", 6)))
        self.assert_first(17982, (drop,), (("to", 1), ("back", 16185)))
        self.assert_first(16184, (drop,), (("to", 1), ("back", 16184)))

    def test_no_last_frame(self):
        late = House((2, 5), ((0, 1, 4),))
        self.assert_first(4, (House((2, 5)), late), (("read", 1, "last"),))
        self.assert_first(0, (House((2, 5)), late), (("read", 1, "next"),))
        self.assert_first(2, (late,), (("unlabel", 2, "last"),))
        self.assert_first(0, (late,), (("unlabel", 4, "next"),))
        self.assert_first(1, (late,), (("unlabel", 5, "next"),))
        self.assert_first(6, (House((2, 5)), late), (("read", 1, "last"), ("back", 2)))


class Rounds(unittest.TestCase):
    def assert_round(self, many, growth, houses, steps):
        move = Move(houses, steps)
        self.assertEqual(move.round, (many, growth))
        for frame in (*range(move.first, move.first + 9), move.first + 10 ** 30):
            self.assertEqual(move.of(frame + many), move.of(frame) + growth)

    def test_the_least_number_over_several_rounds(self):
        for houses, steps in random_moves("rounds", 300):
            longest = plain_through((houses, steps))
            first = plain_first(houses, steps)
            values = [plain_value(houses, steps, first + at) for at in range(4 * longest)]
            for many in range(1, longest + 1):
                growths = {values[at + many] - values[at] for at in range(3 * longest)}
                if len(growths) == 1:
                    break
            self.assertEqual(made(houses, steps).round, (many, growths.pop()), (houses, steps))

    def test_steps_that_undo_one_another(self):
        self.assert_round(1, 1, (small,), ())
        self.assert_round(1, 1, (small,), (("on", 5), ("back", 5)))
        self.assert_round(1, 1, (small,), (("label", 6, "next"), ("unlabel", 6, "last")))
        self.assert_round(1, 1, (small, plain), (("read", 1, "next"), ("read", 0, "next")))
        self.assert_round(1, 1, (drop, full), (("read", 1, "next"), ("read", 0, "last")))
        self.assert_round(1, 1, (small,), (("rate", 3, 1), ("rate", 1, 3)))
        self.assert_round(2, 2, (small,), (("rate", 3, 2), ("rate", 2, 3)))
        self.assert_round(1, 1, (small,), (("label", 600, "last"),))

    def test_reads_and_labels(self):
        self.assert_round(5, 6, (small, plain), (("read", 1, "next"),))
        self.assert_round(6, 5, (plain, small), (("read", 1, "last"),))
        self.assert_round(17982, 18000, (drop, full), (("read", 1, "next"),))
        self.assert_round(18000, 17982, (full, drop), (("read", 1, "next"),))
        self.assert_round(1, 1, (plain,), (("label", 7, "next"),))
        self.assert_round(5, 5, (small,), (("label", 2, "next"),))
        self.assert_round(3, 3, (plain, small), (("to", 1),))
        self.assert_round(5, 5, (small,), (("to", 0),))
        self.assert_round(5, 5, (small,), (("after", 0),))

    def test_rates(self):
        for factor in (1, 2, 3, 50, 99, 100):
            self.assert_round(1, factor, (small,), (("rate", factor, 1),))
            self.assert_round(factor, 1, (small,), (("rate", 1, factor),))
        self.assert_round(2, 3, (small,), (("rate", 99, 66),))
        self.assert_round(1, 1, (small,), (("rate", 100, 100),))
        self.assert_round(20000, 1, (small,), (("rate", 1, 100), ("rate", 1, 100), ("rate", 1, 2)))
        self.assert_round(5, 3, (small, plain), (("read", 1, "next"), ("rate", 1, 2)))
        self.assert_round(1, 10 ** 16, (small,), (("rate", 100, 1),) * 8)

    def test_moves_that_lose_frames(self):
        self.assert_round(1, 1, (small,), (("unlabel", 6, "last"),))
        self.assert_round(1, 1, (small,), (("back", 10 ** 40),))
        self.assert_round(5, 5, (small,), (("unlabel", 10 ** 40, "last"),))
        self.assert_round(5, 6, (small, plain), (("back", 10 ** 40), ("read", 1, "last")))
        self.assert_round(3, 2, (small,), (("back", 10 ** 40 - 1), ("rate", 2, 3), ("back", 10 ** 40)))
        self.assert_round(100, 7, (small,), (("rate", 7, 100), ("unlabel", 6 * 10 ** 39, "next")))

    def test_only_frames_that_are_not_lost_count(self):
        # Below its first frame, the frames of the greater house would repeat later.
        self.assert_round(10000, 1, (small,), (("rate", 1, 100), ("rate", 1, 100), ("back", 10 ** 40)))


if __name__ == "__main__":
    unittest.main()
