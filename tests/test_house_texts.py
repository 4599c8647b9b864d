"""The texts of labels and of houses: [9], `House.read`, `House.written` and `House.spoken`."""

import unittest

from plain_houses import DROP, HOUSES, SMALL, is_skipped, labels_below, plain_text
from wrong_values import INTEGERS_BELOW, OTHER_KINDS, STRINGS, TRUTHS, TUPLES_OF_INTEGERS

from labelmoves.errors import InvalidText
from labelmoves.houses import House

NO_STRINGS = (*OTHER_KINDS, *TRUTHS, *TUPLES_OF_INTEGERS, *INTEGERS_BELOW, 0, 5, House((2, 3)), ["house 2 3"])


class Texts(unittest.TestCase):
    def assert_no_text(self, call, given):
        with self.assertRaises(InvalidText) as caught:
            call(given)
        self.assertIs(type(caught.exception), InvalidText)
        self.assertIs(caught.exception.given, given)


class TextsOfLabels(Texts):
    def test_zeros_in_front(self):
        for bases, label, text in (
            ((2,), (0, 1), "0:1"),
            ((9,), (0, 8), "0:8"),
            ((10,), (5, 9), "5:9"),
            ((11,), (5, 9), "5:09"),
            ((11,), (12, 10), "12:10"),
            ((60, 10, 11), (0, 7, 7, 7), "0:07:7:07"),
            ((60, 60, 30), (100, 0, 10, 29), "100:00:10:29"),
            ((60,), (10 ** 40, 0), f"1{'0' * 40}:00"),
        ):
            house = House(bases)
            self.assertEqual(house.written(house.frame(label)), text)
            self.assertEqual(house.spoken(text), house.frame(label))

    def test_label_by_label(self):
        for bases, rows in HOUSES:
            house = House(bases, rows)
            with self.subTest(house=house):
                frame = 0
                for label in labels_below(bases, 3):
                    text = plain_text(bases, label)
                    if is_skipped(rows, label):
                        self.assertIsNone(house.spoken(text))
                    else:
                        self.assertEqual(house.written(frame), text)
                        self.assertEqual(house.spoken(text), frame)
                        frame += 1

    def test_dropped_labels(self):
        house = House(*DROP)
        self.assertEqual([house.spoken("0:01:00:00"), house.spoken("0:01:00:01")], [None, None])
        self.assertEqual([house.spoken("0:01:00:02"), house.spoken("0:10:00:00")], [1800, 17982])

    def test_far_out(self):
        for bases, rows in HOUSES:
            house = House(bases, rows)
            for frame in (10 ** 39, 10 ** 40, 10 ** 40 + 7 ** 30, 10 ** 60 - 1, 10 ** 75):
                text = house.written(frame)
                self.assertEqual(text, plain_text(bases, house.label(frame)))
                self.assertEqual(house.spoken(text), frame)

    def test_numbers_of_any_size(self):
        # Python writes and reads no such numbers by itself.
        house = House((2, 3))
        text = house.written(6 * 10 ** 5000 + 1)
        self.assertEqual(text, "1" + "0" * 5000 + ":0:1")
        self.assertEqual(house.spoken(text), 6 * 10 ** 5000 + 1)
        self.assert_no_text(house.spoken, "0" + text)
        self.assert_no_text(house.spoken, "0:0:" + "1" * 6000)

    def test_no_strings(self):
        for given in NO_STRINGS:
            self.assert_no_text(House(*SMALL).spoken, given)

    def test_no_texts_of_labels(self):
        house = House((60, 10, 30))
        self.assertEqual(house.spoken("0:00:0:00"), 0)
        for given in (
            "", "0", ":", ":::", "0:00:0", "0:00:0:", ":00:0:00", "0:00:0:00:", "0:00:0:00:00", "00:00:0:00", "01:00:0:00",
            "0:0:0:00", "0:000:0:00", "0:00:00:00", "0:00:0:0", "0:00:0:000", "0:60:0:00", "0:00:10:00", "0:00:0:30",
            "0:00:0:99", "-1:00:0:00", "+1:00:0:00", "-0:00:0:00", "0:-1:0:00", "0:00:0:+1", "0:00:0:-1", " 0:00:0:00",
            "0:00:0:00 ", "0 :00:0:00", "0: 0:0:00", "0:00:0:00\n", "\n0:00:0:00", "0:00:0\n:00", "0:00:0:0x", "0:00:0:0.",
            "0:0_0:0:00", "1_0:00:0:00", "0;00;0;00", "0.00.0.00", "0 00 0 00", "0,00,0,00", "0::00:0:00", "0:00:0:00:0",
            "a:bb:c:dd", "0x0:00:0:00", "0e1:00:0:00", "None", "(0, 0, 0, 0)", "house 60 10 30", *STRINGS,
        ):
            self.assert_no_text(house.spoken, given)

    def test_figures_of_other_scripts(self):
        for given in ("0:0:\u0661", "0:0:\u00b2", "\uff11:0:0"):
            self.assert_no_text(House((2, 3)).spoken, given)


class TextsOfHouses(Texts):
    def test_lines(self):
        self.assertEqual(str(House((2,))), "house 2")
        self.assertEqual(str(House((2, 3))), "house 2 3")
        self.assertEqual(str(House(*DROP)), "house 60 60 30\nskip 1 1 2\nskip 1 10 0")
        self.assertEqual(str(House((9,), ((0, 60, 8), (0, 1, 0)))), "house 9\nskip 0 60 8\nskip 0 1 0")

    def test_shown(self):
        self.assertEqual(repr(House((2,))), "House(2, 0 rows)")
        self.assertEqual(repr(House(*SMALL)), "House(2 3, 1 rows)")
        self.assertEqual(repr(House(*DROP)), "House(60 60 30, 2 rows)")
        self.assertEqual(repr(House((2, 3), ((0, 1, 1),) * 6)), "House(2 3, 6 rows)")

    def test_read_again(self):
        for bases, rows in (*HOUSES, DROP, ((2, 3), ((1, 1, 1),) * 6)):
            lines = [" ".join(["house", *map(str, bases)])] + [" ".join(["skip", *map(str, row)]) for row in rows]
            house = House.read("\n".join(lines))
            self.assertIs(type(house), House)
            self.assertEqual((house.bases, house.rows), (bases, rows))
            self.assertEqual(str(house), "\n".join(lines))
            self.assertTrue(house == House(bases, rows))
            self.assertEqual(house.round, House(bases, rows).round)

    def test_no_strings(self):
        for given in NO_STRINGS:
            self.assert_no_text(House.read, given)

    def test_other_forms(self):
        text = "house 2 3\nskip 0 1 1"
        self.assertEqual(str(House.read(text)), text)
        for given in (
            "", " ", "\n", "house", "house ", "skip", "House 2 3", "HOUSE 2 3", "house2 3", "house 2 3\nSkip 0 1 1",
            " house 2 3", "house 2 3 ", "house  2 3", "house 2  3", "house\n2 3", "house 2\n3", "house 2 3\n", "\nhouse 2 3",
            "house 2 3\n\n", "house 2 3\n\nskip 0 1 1", "house 2 3\nskip 0 1 1\n", "house 2 3\nskip 0 1 1\n\n",
            "house 2 3\n skip 0 1 1", "house 2 3\nskip 0 1 1 ", "house 2 3\nskip  0 1 1", "house 2 3\nskip 0  1 1",
            "house 2 3 skip 0 1 1", "house 2 3\nskip 0 1 1 skip 0 1 1", "skip 0 1 1\nhouse 2 3", "skip 0 1 1", "2 3",
            "house 2 3\nhouse 2 3", "house 2 3\nmove", "house 2 3\nskip", "house 2 3\nskip 0", "house 2 3\nskip 0 1",
            "house 2 3\nskip 0 1 1 1", "house 2 3\nskip 0\n1 1", "house 2 3\n0 1 1", "house 2,3", "house 2:3", "house (2, 3)",
            "house 02 3", "house 2 03", "house 2 3\nskip 00 1 1", "house 2 3\nskip 0 01 1", "house 2 3\nskip 0 1 01",
            "house +2 3", "house 2 -3", "house -2 3", "house 2 3\nskip -0 1 1", "house 2 3\nskip 0 +1 1", "house 2.0 3",
            "house 2 3\nskip 0 1 1.", "house two 3", "house 2 x", "house 2 3\nskip a b c", "house 1_0 3", "house 2\t3",
            "house 2 3\r\nskip 0 1 1", "house 2 3#", "house 2 3\nskip 0 1 1#", "house None", "house 0x2 3", *STRINGS,
        ):
            self.assert_no_text(House.read, given)

    def test_houses_that_cannot_be_made(self):
        for given in (
            "house 1", "house 61", "house 0", "house 2 3 1", "house 2 61", "house 2 2 2 2", f"house {10 ** 40}",
            "house 2 3\nskip 2 1 1", "house 2 3\nskip 0 0 1", "house 2 3\nskip 0 61 1", "house 2 3\nskip 0 1 3",
            f"house 2 3\nskip 0 {10 ** 40} 1", "house 2 3" + "\nskip 0 1 1" * 7, "house 2 3" + "\nskip 0 1 1" * 3000,
            "house " + "9" * 10000,
        ):
            self.assert_no_text(House.read, given)

    def test_houses_that_are_too_long(self):
        self.assertEqual(House.read("house 60 60 30\nskip 0 2 1").rows, ((0, 2, 1),))
        for given in (
            "house 60 60 30\nskip 0 3 1", "house 60 60 30\nskip 0 3 0", "house 9\nskip 0 60 1\nskip 0 59 1\nskip 0 7 1",
        ):
            self.assert_no_text(House.read, given)


if __name__ == "__main__":
    unittest.main()
