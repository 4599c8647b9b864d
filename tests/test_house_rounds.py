"""The round of a house: [8]."""

import unittest

from plain_houses import DROP, HOUSES, SMALL, plain_round

from labelmoves.houses import House


class Rounds(unittest.TestCase):
    def assert_round(self, groups, frames, bases, rows=()):
        self.assertEqual(House(bases, rows).round, (groups, frames))
        self.assertEqual(plain_round(bases, rows), (groups, frames))

    def test_as_each_number_of_groups_in_turn_says(self):
        for bases, rows in HOUSES:
            with self.subTest(bases=bases, rows=rows):
                self.assertEqual(House(bases, rows).round, plain_round(bases, rows))

    def test_houses_of_the_examples(self):
        self.assert_round(600, 17982, *DROP)
        self.assert_round(2, 5, *SMALL)

    def test_no_rows(self):
        self.assert_round(1, 2, (2,))
        self.assert_round(1, 60, (60,))
        self.assert_round(1, 3, (2, 3))
        self.assert_round(1, 30, (60, 60, 30))

    def test_rows_that_change_nothing(self):
        self.assert_round(1, 3, (2, 3), ((0, 60, 0),))
        self.assert_round(1, 30, (60, 60, 30), ((0, 2, 0), (1, 7, 0), (2, 3, 0)))
        self.assert_round(1, 5, (9, 5), ((0, 2, 4), (1, 3, 2), (1, 1, 0)))

    def test_rows_with_equal_effect(self):
        self.assert_round(1, 7, (9,), ((0, 2, 2), (0, 1, 2)))
        self.assert_round(1, 7, (9,), ((0, 1, 2), (0, 60, 2)))
        self.assert_round(1, 4, (6, 5), ((0, 12, 1), (1, 4, 3), (1, 1, 1)))
        self.assert_round(3, 11, (6, 5), ((1, 1, 1), (0, 1, 2), (1, 3, 2)))

    def test_several_rows_of_field_nought(self):
        self.assert_round(6, 54 - 5 - 2 - 5 - 2, (9,), ((0, 2, 2), (0, 3, 5), (0, 6, 7), (0, 1, 0), (0, 2, 2), (0, 3, 5)))
        self.assert_round(60, 1194, (20,), ((0, 15, 1), (0, 20, 1)))
        self.assert_round(36, 72 - 36 + 4, (3, 2), ((1, 1, 1), (0, 4, 0), (0, 6, 0)))
        self.assert_round(7200, 71500, (10,), ((0, 32, 1), (0, 45, 1), (0, 50, 1)))

    def test_rows_of_later_fields_alone(self):
        self.assert_round(5, 49, (20, 10), ((1, 5, 1),))
        self.assert_round(20, 197, (20, 10), ((1, 7, 1),))
        self.assert_round(60, 599, (60, 60, 10), ((1, 1, 1),))
        self.assert_round(3600, 35991, (60, 60, 10), ((1, 7, 1),))
        self.assert_round(6, 59, (60, 60, 10), ((2, 6, 1),))
        self.assert_round(60, 591, (60, 60, 10), ((2, 7, 1),))

    def test_one_base(self):
        self.assert_round(1, 9, (10,), ((0, 1, 1),))
        self.assert_round(7, 69, (10,), ((0, 7, 1),))
        self.assert_round(60, 61, (2,), ((0, 1, 1), (0, 60, 0)))

    def test_each_every(self):
        for every in range(1, 61):
            self.assert_round(every, 7 * every - 3, (7,), ((0, every, 3),))
            groups = every if 60 % every == 0 else 60
            skipping = len(range(0, groups, every))
            self.assert_round(groups, 7 * groups - 3 * skipping, (60, 7), ((1, every, 3),))

    def test_fewer_groups_than_the_sum(self):
        self.assert_round(2, 3, (2,), ((0, 2, 1), (0, 4, 1), (0, 60, 1)))
        self.assert_round(60, 1799, (60, 60, 30), ((0, 2, 1), (1, 1, 1)))
        self.assert_round(4, 39, (4, 10), ((0, 1, 2), (0, 2, 2), (1, 4, 1)))

    def test_the_greatest_sum(self):
        self.assert_round(7200, 7200 * 30 - 1, (60, 60, 30), ((0, 2, 1),))


if __name__ == "__main__":
    unittest.main()
