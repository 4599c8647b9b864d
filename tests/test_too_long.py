"""Which numbers go through a move, and when that takes too long: [17], TooLong(20000)."""

from math import gcd, lcm

from plain_moves import PLAIN, SMALL, made, plain_becoming, plain_first, plain_through, random_moves
from plain_houses import DROP
from raising import Raising

from labelmoves.comparing import distances, first_at, first_earlier, first_unlike, times_at
from labelmoves.houses import House
from labelmoves.moves import Move

small, plain = House(*SMALL), House(*PLAIN)
drop, full = House(*DROP), House((60, 60, 30))


def rates_down(number):
    """Steps through which just the multiples of the number go, None if there are no such few steps."""
    steps = []
    while number > 100:
        divisor = next((divisor for divisor in range(100, 1, -1) if number % divisor == 0), None)
        if divisor is None:
            return None
        steps.append(("rate", 1, divisor))
        number //= divisor
    return (*steps, ("rate", 1, number))


def nearest(number, way):
    """The next number, this one included, on (1) or back (-1), that rates can stand for."""
    while rates_down(number) is None:
        number += way
    return number


class OneMove(Raising):
    def assert_goes(self, houses, steps):
        self.assertEqual(Move(houses, steps).steps, steps)

    def test_at_twenty_thousand_and_just_above(self):
        self.assert_goes((small,), rates_down(20000))
        self.assert_too_long(Move, (small,), rates_down(20007))
        self.assert_goes((small,), rates_down(19992))
        self.assert_too_long(Move, (small,), rates_down(30000))
        # A house with 113 frames in a round: 113 * 177 is 20001.
        prime = House((57,), ((0, 2, 1),))
        self.assertEqual(prime.round, (2, 113))
        for steps in ((("label", 0, "next"), *rates_down(177)), (*rates_down(177), ("label", 0, "next"))):
            self.assert_too_long(Move, (prime,), steps)
        self.assert_goes((prime,), (("label", 0, "next"), *rates_down(176)))

    def test_rates_one_behind_the_other(self):
        down, up = ("rate", 1, 100), ("rate", 100, 1)
        self.assert_goes((small,), (down, down))
        self.assert_goes((small,), (down, up) * 4)
        self.assert_goes((small,), (up,) * 8)
        self.assert_goes((small,), (up,) * 4 + (down,) * 4)
        self.assert_goes((small,), (down, down, up, down, up, down))
        self.assert_too_long(Move, (small,), (down,) * 3)
        self.assert_too_long(Move, (small,), (down, down, up, down, down))
        self.assert_too_long(Move, (small,), (down,) * 4 + (up,) * 4)
        self.assert_goes((small,), (("rate", 50, 100),) * 8)
        self.assert_goes((small,), (("rate", 1, 2),) * 8)
        self.assert_goes((small,), (("rate", 2, 6),) * 8)
        self.assert_too_long(Move, (small,), (("rate", 1, 4),) * 8)
        self.assert_goes((small,), (("rate", 2, 3), ("rate", 3, 4)) * 4)
        self.assert_too_long(Move, (small,), (("rate", 3, 4),) * 8)

    def test_rates_in_lowest_terms(self):
        self.assert_goes((small,), (("rate", 100, 100),) * 8)
        self.assert_goes((small,), (("rate", 98, 100),) * 2 + (("rate", 4, 8),) * 3)
        self.assert_too_long(Move, (small,), (("rate", 98, 100),) * 2 + (("rate", 1, 9),))

    def test_label_and_unlabel_take_the_frames_of_a_round(self):
        house = House((60, 60, 30), ((2, 60, 1),))
        self.assertEqual(house.round, (60, 1799))
        for word in ("label", "unlabel"):
            step = (word, 0, "next")
            self.assert_goes((house,), (step, ("rate", 1, 11)))
            self.assert_too_long(Move, (house,), (step, ("rate", 1, 12)))
            self.assert_goes((drop,), (step, ("rate", 1, 18)))
            self.assert_too_long(Move, (drop,), (step, ("rate", 1, 4)))
            long = House((60, 60, 30), ((0, 2, 1),))
            self.assertEqual(long.round, (7200, 7200 * 30 - 1))
            self.assert_too_long(Move, (long,), (step,))

    def test_to_and_after_take_whole_units_too(self):
        for word in ("to", "after"):
            self.assert_goes((full,), ((word, 2), ("rate", 1, 100)))
            self.assert_goes((full,), ((word, 1), ("rate", 1, 100)))
            self.assert_goes((full,), (("rate", 1, 11), (word, 1)))
            self.assert_too_long(Move, (full,), (("rate", 1, 12), (word, 1)))
            self.assert_too_long(Move, (full,), ((word, 0),))
            self.assert_goes((drop,), ((word, 2),))
            self.assert_goes((drop,), ((word, 1),))
            self.assert_too_long(Move, (drop,), ((word, 0),))
            # Ten rounds in a unit of field 0.
            house = House((60, 6), ((1, 6, 1),))
            self.assertEqual(house.round, (6, 35))
            self.assert_goes((house,), (("rate", 1, 57), (word, 0)))
            self.assert_too_long(Move, (house,), (("rate", 1, 58), (word, 0)))
            # Ten units of field 0 in a round.
            house = House((6, 6), ((0, 10, 1),))
            self.assertEqual(house.round, (60, 359))
            self.assert_goes((house,), (("rate", 1, 55), (word, 0)))
            self.assert_too_long(Move, (house,), (("rate", 1, 56), (word, 0)))

    def test_reads_take_whole_rounds_of_both(self):
        one, other = House((3,), ((0, 59, 1),)), House((3,), ((0, 53, 1),))
        self.assertEqual((one.round, other.round), ((59, 176), (53, 158)))
        read = ("read", 1, "next")
        self.assert_goes((one, other), (read,))
        self.assert_goes((one, other), (("rate", 1, 2), read))
        self.assert_too_long(Move, (one, other), (("rate", 1, 3), read))
        self.assert_goes((other, one), (read,))
        self.assert_goes((drop, full), (read, ("read", 0, "last"), read, ("rate", 1, 100)))
        self.assert_too_long(Move, (drop, full), (read, ("rate", 1, 7)))
        self.assert_goes((full, drop), (read,))

    def test_reads_one_behind_the_other(self):
        one, other = House((3,), ((0, 59, 1),)), House((3,), ((0, 53, 1),))
        steps = (("read", 1, "next"), ("read", 2, "next"))
        # 176 * 53 goes through the first reading and becomes 158 * 59.
        self.assert_goes((one, other, House((3,))), steps)
        self.assert_goes((one, other, House((3,), ((0, 2, 1),))), steps)
        self.assert_too_long(Move, (one, other, House((3,), ((0, 3, 1),))), steps)
        self.assert_goes((one, other, one), steps)
        self.assert_goes((one, other), (("read", 1, "next"), ("rate", 1, 2)))
        self.assert_goes((one, other), (("read", 1, "next"), ("rate", 1, 59)))
        self.assert_goes((one, other), (("read", 1, "next"), ("rate", 1, 79)))
        self.assert_too_long(Move, (one, other), (("read", 1, "next"), ("rate", 1, 53)))
        self.assert_too_long(Move, (one, other), (("read", 1, "next"), ("rate", 1, 11)))

    def test_on_back_and_call_take_nothing(self):
        long = House((60, 60, 30), ((0, 2, 1),))
        steps = (("on", 10 ** 40), ("back", 7), ("call", 1), ("call", 0), ("on", 1), ("rate", 1, 100), ("rate", 1, 100), ("rate", 1, 2))
        self.assert_goes((long, small), steps)

    def test_greater_numbers_behind_rates_up(self):
        house = House((60, 60, 30), ((1, 60, 20),))
        self.assertEqual(house.round, (3600, 107980))
        for step in (("label", 1, "next"), ("unlabel", 1, "next"), ("to", 0), ("after", 0), ("read", 1, "last")):
            self.assert_goes((house, full), (("rate", 20, 1), step))
            self.assert_goes((house, full), (("rate", 20, 1), ("rate", 1, 3), step))
            self.assert_too_long(Move, (house, full), (("rate", 5, 1), step))
            self.assert_too_long(Move, (house, full), (("rate", 20, 1), ("rate", 1, 4), step))
            self.assert_too_long(Move, (house, full), (("rate", 1, 1), step))

    def test_the_least_number_that_goes_through_against_rates_ahead(self):
        """Rates ahead make the least number so many times greater, so they show it."""
        for houses, steps in random_moves("ahead", 150, most=4):
            least = plain_through((houses, steps))
            fits, above = nearest(20000 // least, -1), nearest(20000 // least + 1, 1)
            self.assert_goes(made(houses, ()).houses, rates_down(fits) + steps)
            self.assert_too_long(Move, made(houses, ()).houses, rates_down(above) + steps)

    def test_what_it_becomes_against_a_rate_behind(self):
        for houses, steps in random_moves("behind", 100, most=3):
            least = plain_through((houses, steps))
            becoming = plain_becoming(houses, steps, least)
            for divisor in (2, 3, 4, 5, 7, 9, 11, 13, 64, 100):
                times = divisor // gcd(divisor, becoming)
                ahead = nearest(20000 // least // divisor + 1, 1)
                call = made(houses, ()).houses, rates_down(ahead) + steps + (("rate", 1, divisor),)
                if ahead * least * times > 20000:
                    self.assert_too_long(Move, *call)
                else:
                    self.assert_goes(*call)


class TwoMoves(Raising):
    CALLS = (
        first_unlike, first_earlier, distances,
        lambda one, other: first_at(one, other, 5), lambda one, other: times_at(one, other, 5, 9),
    )

    def assert_told(self, one, other):
        for call in self.CALLS:
            call(one, other)
            call(other, one)

    def assert_both_too_long(self, one, other):
        for call in self.CALLS:
            self.assert_too_long(call, one, other)
            self.assert_too_long(call, other, one)

    def rated(self, number):
        return Move((small,), rates_down(number))

    def test_at_twenty_thousand_and_just_above(self):
        self.assert_told(self.rated(125), self.rated(160))
        self.assert_told(self.rated(20000), self.rated(10))
        self.assert_told(self.rated(20000), self.rated(20000))
        self.assert_both_too_long(self.rated(81), self.rated(247))
        self.assert_both_too_long(self.rated(20000), self.rated(3))
        self.assert_both_too_long(self.rated(19992), self.rated(20000))
        self.assert_told(Move((House((57,), ((0, 2, 1),)),), (("label", 1, "next"),)), self.rated(176))
        self.assert_both_too_long(Move((House((57,), ((0, 2, 1),)),), (("label", 1, "next"),)), self.rated(177))

    def test_the_number_that_goes_through_counts_and_not_the_round(self):
        # Both repeat after each frame, but only 17982 and 17 frames go through.
        one = Move((drop, full), (("read", 1, "next"), ("read", 0, "next")))
        other = Move((small,), (("rate", 1, 17), ("rate", 17, 1)))
        self.assertEqual(one.round, (1, 1))
        self.assert_both_too_long(one, other)
        self.assert_both_too_long(one, Move((House((17,)),), (("label", 17, "next"),)))
        self.assert_told(one, Move((House((27,)),), (("label", 27, "next"),)))

    def test_houses_of_unlike_rounds(self):
        self.assert_told(Move((drop,), (("label", 7, "next"),)), Move((drop,), (("to", 1),)))
        self.assert_both_too_long(Move((drop,), (("label", 7, "next"),)), Move((full,), (("to", 1),)))
        self.assert_told(Move((drop,), (("label", 7, "next"),)), Move((full,), (("on", 7),)))

    def test_each_pair(self):
        moves = random_moves("pairs", 60, longest=400)
        for one, other in zip(moves, moves[1:]):
            number = lcm(plain_through(one, most=400), plain_through(other, most=400))
            self.assertEqual(number > 20000, plain_through(one, other) is None)
            if number > 20000:
                self.assert_both_too_long(made(*one), made(*other))
            elif number < 400:
                self.assert_told(made(*one), made(*other))

    def test_first_frames_do_not_count(self):
        self.assertEqual(plain_first((SMALL,), (("back", 7),)), 7)
        self.assert_told(Move((small,), (("back", 10 ** 40),)), self.rated(20000))
