"""Making houses: [3], [4], [5], [6], [7], and what two houses are to each other."""

import unittest

from plain_houses import HOUSES, groups_summed
from wrong_values import INTEGERS_BELOW, OTHER_KINDS, STRINGS, TRUTHS, TUPLES_OF_INTEGERS, Agreeing, nested

from labelmoves.errors import InvalidBases, InvalidRows, TooLong
from labelmoves.houses import House


class Raising(unittest.TestCase):
    def assert_index(self, error, index, bases, rows=()):
        with self.assertRaises(error) as caught:
            House(bases, rows)
        self.assertIs(type(caught.exception), error)
        self.assertEqual(caught.exception.index, index)
        self.assertIs(type(caught.exception.index), type(index))

    def assert_too_long(self, bases, rows):
        with self.assertRaises(TooLong) as caught:
            House(bases, rows)
        self.assertEqual(caught.exception.limit, 7200)


class Bases(Raising):
    def test_one_to_three(self):
        for bases in ((2,), (60,), (2, 2), (60, 60), (2, 60, 2), (60, 60, 60), (2, 2, 2)):
            self.assertEqual(House(bases).bases, bases)

    def test_too_few_or_too_many(self):
        for bases in ((), (2, 2, 2, 2), (60, 60, 60, 60, 60), (1, 1, 1, 1), ("2", None, 2, 2), (2,) * 1000):
            self.assert_index(InvalidBases, None, bases)

    def test_no_tuple_at_all(self):
        for bases in (*OTHER_KINDS, *TRUTHS, *STRINGS, 0, 2, 10 ** 60, *INTEGERS_BELOW, House((2, 3))):
            if not isinstance(bases, tuple):
                self.assert_index(InvalidBases, None, bases)

    def test_first_wrong_one(self):
        self.assert_index(InvalidBases, 0, (1,))
        self.assert_index(InvalidBases, 0, (61,))
        self.assert_index(InvalidBases, 0, (1, 61, 0))
        self.assert_index(InvalidBases, 1, (2, 1))
        self.assert_index(InvalidBases, 1, (60, 61, 1))
        self.assert_index(InvalidBases, 2, (60, 60, 61))
        self.assert_index(InvalidBases, 2, (2, 2, 1))

    def test_wrong_ones_of_each_kind(self):
        for wrong in (*OTHER_KINDS, *TRUTHS, *STRINGS, *TUPLES_OF_INTEGERS, 0, 1, 61, 10 ** 40, *INTEGERS_BELOW):
            self.assert_index(InvalidBases, 0, (wrong,))
            self.assert_index(InvalidBases, 1, (2, wrong, wrong))
            self.assert_index(InvalidBases, 2, (60, 2, wrong))

    def test_looked_at_before_rows(self):
        self.assert_index(InvalidBases, 1, (2, 1), None)
        self.assert_index(InvalidBases, None, [2, 3], ((5, 5, 5),))
        self.assert_index(InvalidBases, 2, (60, 60, 1), ((0, 3, 0),))


class Rows(Raising):
    def test_none_to_six(self):
        for many in range(7):
            rows = ((1, 1, 1),) * many
            self.assertEqual(House((2, 3), rows).rows, rows)

    def test_too_many(self):
        self.assert_index(InvalidRows, None, (2, 3), ((1, 1, 1),) * 7)
        self.assert_index(InvalidRows, None, (2, 3), (None,) * 7)
        self.assert_index(InvalidRows, None, (2, 3), ((9, 9, 9),) * 1000)

    def test_no_tuple_at_all(self):
        for rows in (*OTHER_KINDS, *TRUTHS, *STRINGS, 0, 1, *INTEGERS_BELOW, House((2, 3)), [(0, 1, 1)]):
            if not isinstance(rows, tuple):
                self.assert_index(InvalidRows, None, (2, 3), rows)

    def test_edges_of_a_row(self):
        for bases in ((2,), (5,), (7, 4), (3, 4, 9)):
            fields, last = len(bases), bases[-1]
            for row in ((0, 1, 0), (fields - 1, 60, last - 1), (0, 60, 0), (fields - 1, 1, last - 1)):
                self.assertEqual(House(bases, (row,)).rows, (row,))
            for row in ((fields, 1, 0), (-1, 1, 0), (0, 0, 0), (0, 61, 0), (0, -1, 0), (0, 1, last), (0, 1, -1)):
                self.assert_index(InvalidRows, 0, bases, (row,))

    def test_count_is_below_the_last_base(self):
        self.assertEqual(House((2, 3, 60), ((0, 1, 59),)).rows, ((0, 1, 59),))
        self.assert_index(InvalidRows, 0, (60, 60, 3), ((1, 1, 3),))

    def test_too_few_or_too_many_numbers(self):
        for row in ((), (0,), (0, 1), (0, 1, 1, 1), ((0, 1, 1),), (0, (1, 1))):
            self.assert_index(InvalidRows, 0, (2, 3), (row,))

    def test_other_kinds_of_rows(self):
        for row in (*OTHER_KINDS, *TRUTHS, *STRINGS, *TUPLES_OF_INTEGERS, [0, 1, 1], {0: 1}, "011", 3, House((2,))):
            self.assert_index(InvalidRows, 2, (2, 3), ((0, 1, 1), (1, 1, 1), row, row))

    def test_other_kinds_of_numbers(self):
        for wrong in (*OTHER_KINDS, *TRUTHS, *STRINGS, *TUPLES_OF_INTEGERS, 10 ** 40, *INTEGERS_BELOW):
            for row in ((wrong, 1, 1), (0, wrong, 1), (0, 1, wrong)):
                self.assert_index(InvalidRows, 1, (60, 60, 30), ((1, 1, 1), row))

    def test_first_wrong_one(self):
        good, bad = (1, 1, 1), (1, 0, 1)
        self.assert_index(InvalidRows, 0, (2, 3), (bad, bad))
        self.assert_index(InvalidRows, 5, (2, 3), (good,) * 5 + (bad,))
        self.assert_index(InvalidRows, 3, (2, 3), (good, good, good, bad, good, bad))

    def test_looked_at_before_the_sum(self):
        self.assert_index(InvalidRows, 1, (60, 60, 30), ((0, 60, 2), (0, 60, 30)))


class Sums(Raising):
    def test_seven_thousand_two_hundred_are_let(self):
        for bases, rows in (
            ((60, 60, 30), ((0, 2, 1),)),
            ((60, 60, 2), ((0, 2, 1), (0, 1, 0), (2, 59, 1), (1, 53, 1))),
            ((60, 2), ((0, 60, 1), (0, 40, 1))),
            ((10,), ((0, 32, 1), (0, 45, 3), (0, 50, 2))),
        ):
            self.assertEqual(groups_summed(bases, rows), 7200)
            self.assertEqual(House(bases, rows).rows, rows)

    def test_just_below(self):
        for groups, bases, rows in (
            (6615, (10,), ((0, 27, 1), (0, 49, 1), (0, 5, 1))),
            (6909, (49, 47, 30), ((0, 3, 1),)),
            (7155, (53, 45, 2), ((0, 3, 1),)),
            (7080, (59, 2), ((0, 60, 1), (0, 24, 1))),
        ):
            self.assertEqual(groups_summed(bases, rows), groups)
            self.assertEqual(House(bases, rows).rows, rows)

    def test_more_are_too_long(self):
        for bases, rows in (
            ((60, 60, 30), ((0, 3, 1),)),
            ((60, 41, 30), ((0, 3, 1),)),
            ((60, 60, 30), ((0, 60, 0),)),
            ((60, 60), ((0, 11, 1), (0, 12, 2), (0, 22, 3))),
            ((10,), ((0, 59, 1), (0, 53, 1), (0, 3, 1))),
            ((10,), ((0, 60, 1), (0, 59, 1), (0, 58, 1), (0, 57, 1), (0, 53, 1), (0, 47, 1))),
        ):
            self.assertGreater(groups_summed(bases, rows), 7200)
            self.assert_too_long(bases, rows)

    def test_just_above(self):
        self.assertEqual(groups_summed((49, 3), ((0, 49, 1), (0, 3, 1))), 7203)
        self.assert_too_long((49, 3), ((0, 49, 1), (0, 3, 1)))
        self.assertEqual(groups_summed((59, 41, 2), ((0, 3, 1),)), 7257)
        self.assert_too_long((59, 41, 2), ((0, 3, 1),))

    def test_the_sum_counts_and_not_the_round(self):
        self.assert_too_long((60, 60, 30), ((0, 3, 0),))
        self.assert_too_long((60, 60, 30), ((0, 7, 2), (0, 1, 2)))

    def test_other_fields_do_not_count(self):
        rows = ((1, 59, 1), (2, 53, 1), (1, 47, 2), (2, 43, 1), (1, 41, 1), (2, 37, 1))
        self.assertEqual(House((60, 60, 30), rows).rows, rows)

    def test_the_last_base_does_not_count(self):
        self.assertEqual(House((60, 60), ((0, 60, 59), (0, 24, 1))).rows, ((0, 60, 59), (0, 24, 1)))


class Parameters(unittest.TestCase):
    def test_by_position_and_by_name(self):
        rows = ((0, 1, 1),)
        self.assertEqual(House((2, 3), rows), House(bases=(2, 3), rows=rows))
        self.assertEqual(House((2, 3), rows=rows), House(rows=rows, bases=(2, 3)))
        self.assertEqual(House((2, 3)), House((2, 3), ()))
        self.assertEqual(House(bases=(2, 3)).rows, ())
        house = House((2, 3), rows)
        self.assertEqual(House.read(text="house 2 3\nskip 0 1 1"), house)
        self.assertEqual(house.label(frame=5), house.label(5))
        self.assertEqual(house.place(frame=5), house.place(5))
        self.assertEqual(house.written(frame=5), house.written(5))
        self.assertEqual(house.frame(label=(1, 0, 1)), house.frame((1, 0, 1)))
        self.assertEqual(house.spoken(text="1:0:1"), house.spoken("1:0:1"))
        self.assertEqual(house.at(place=6, way="last"), house.at(6, "last"))
        self.assertEqual(house.at(way="last", place=6), house.at(6, way="last"))

    def test_what_is_passed_stays_as_it_is(self):
        wrong = [[2, 3], [0, 1, 1]]
        house = House((2, 3))
        for call in (House, House.read, house.label, house.place, house.written, house.frame, house.spoken):
            with self.assertRaises(ValueError):
                call(wrong)
        with self.assertRaises(InvalidRows):
            House((2, 3), wrong)
        self.assertEqual(wrong, [[2, 3], [0, 1, 1]])

    def test_the_same_again_is_equal(self):
        for bases, rows in HOUSES:
            one, other = House(bases, rows), House(bases, rows)
            for house in (one, other):
                house.at(house.place(10 ** 40), "last")
                house.spoken(house.written(3))
            self.assertTrue(one == other)
            told = [(h.bases, h.rows, h.round, str(h), repr(h), h.label(99), h.at(99, "next")) for h in (one, other, one)]
            self.assertEqual(told[0], told[1])
            self.assertEqual(told[0], told[2])

    def test_properties(self):
        for bases, rows in HOUSES:
            house = House(bases, rows)
            self.assertEqual((house.bases, house.rows), (bases, rows))
            self.assertIs(type(house.bases), tuple)
            self.assertIs(type(house.rows), tuple)
            self.assertIs(type(house.round), tuple)

    def test_properties_cannot_be_assigned(self):
        house = House((2, 3))
        for name in ("bases", "rows", "round"):
            with self.assertRaises(AttributeError):
                setattr(house, name, ())

    def test_everything_stands_in_the_class_itself(self):
        for name in ("read", "bases", "rows", "round", "label", "place", "written", "frame", "spoken", "at"):
            self.assertIn(name, vars(House))
        self.assertIsInstance(vars(House)["read"], classmethod)
        self.assertEqual(House.__module__, "labelmoves.houses")


class Equality(unittest.TestCase):
    def test_equal_if_the_texts_are(self):
        houses = [House(bases, rows) for bases, rows in HOUSES]
        for at, one in enumerate(houses):
            for beside, other in enumerate(houses):
                self.assertIs(one == other, at == beside)
                self.assertIs(one != other, at != beside)

    def test_other_rows_with_equal_effect_are_not_equal(self):
        plain = House((2, 3))
        for rows in (((0, 1, 0),), ((1, 1, 0),), ((0, 1, 1), (0, 1, 0))):
            self.assertTrue(plain != House((2, 3), rows))
            self.assertFalse(plain == House((2, 3), rows))
        self.assertFalse(House((9,), ((0, 1, 2), (0, 2, 2))) == House((9,), ((0, 2, 2), (0, 1, 2))))

    def test_other_classes_from_both_sides(self):
        house = House((2, 3), ((0, 1, 1),))
        others = [None, 0, 5, 10 ** 60, True, str(house), repr(house), house.bases, (house.bases, house.rows)]
        others += [[], {}, set(), object(), House, b"house 2 3", len, nested(50), [house]]
        for other in others:
            self.assertIs(house == other, False)
            self.assertIs(other == house, False)
            self.assertIs(house != other, True)
            self.assertIs(other != house, True)

    def test_equal_to_nothing_that_only_says_so(self):
        self.assertIs(House((2, 3)) == Agreeing(), False)
        self.assertIs(House((2, 3)) != Agreeing(), True)

    def test_within_tuples(self):
        self.assertEqual((House((2, 3)), 1), (House((2, 3)), 1))
        self.assertIn(House((2, 3)), [House((3, 2)), House((2, 3))])

    def test_a_house_is_true(self):
        for bases, rows in HOUSES:
            self.assertIs(bool(House(bases, rows)), True)


if __name__ == "__main__":
    unittest.main()
