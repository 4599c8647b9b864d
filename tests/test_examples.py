"""The examples of the interface, word for word."""

import unittest

from labelmoves.errors import InvalidRows
from labelmoves.houses import House


class Houses(unittest.TestCase):
    def test_drop(self):
        drop = House((60, 60, 30), ((1, 1, 2), (1, 10, 0)))
        self.assertEqual(
            [drop.round, drop.written(1799), drop.written(1800), drop.frame((0, 1, 0, 1)), drop.at(1800, "last"), drop.place(17982), drop.label(6 * 17982), str(drop).split("\n")[1]],
            [(600, 17982), '0:00:59:29', '0:01:00:02', None, 1799, 18000, (1, 0, 0, 0), 'skip 1 1 2'],
        )

    def test_small(self):
        small = House((2, 3), ((0, 1, 1),))
        self.assertEqual(
            [small.round, small.label(0), small.label(5), small.spoken("1:0:2"), small.at(0, "last"), small.at(6, "next"), repr(small)],
            [(2, 5), (0, 0, 1), (1, 0, 1), 6, None, 5, 'House(2 3, 1 rows)'],
        )

    def test_no_such_field(self):
        with self.assertRaises(InvalidRows) as caught:
            House((60, 60, 30), ((3, 1, 2),))
        self.assertEqual(caught.exception.index, 0)


if __name__ == "__main__":
    unittest.main()
