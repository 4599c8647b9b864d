import unittest

from labelmoves import limits

LIMITS = {
    "MOST_BASES": 3, "MOST_ROWS": 6, "MOST_GROUPS": 7200, "MOST_HOUSES": 3,
    "MOST_STEPS": 8, "MOST_ROUND": 20000, "MOST_CLIPS": 20, "MOST_EXCHANGES": 6,
}


class Limits(unittest.TestCase):
    def test_all_eight_stand_there(self):
        for name, number in LIMITS.items():
            with self.subTest(name=name):
                self.assertIs(type(getattr(limits, name)), int)
                self.assertEqual(getattr(limits, name), number)


if __name__ == "__main__":
    unittest.main()
