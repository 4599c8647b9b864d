"""The checker: [18], [17], [2] (Checker)."""

import unittest
from collections import Counter
from random import Random

from plain_claims import THE_SAME, breaks, moves_of, opposite, plain_accepts
from plain_houses import DROP
from plain_moves import FAR, PLAIN, SMALL, plain_through
from plain_pairs import Told, pairs
from plain_wishes import first, is_missed, random_wishes, value, written
from raising import Raising
from test_shown import NO_INTEGERS, NO_NUMBERS, NO_TEXTS, move, text
from wrong_values import INTEGERS_BELOW, OTHER_KINDS, STRINGS, TRUTHS, TUPLES_OF_INTEGERS, Agreeing, Refusing

from labelmoves.checker import accepts
from labelmoves.houses import House
from labelmoves.moves import Move

small, plain, drop, full = House(*SMALL), House(*PLAIN), House(*DROP), House((60, 60, 30))
DOWN = ("rate", 1, 100)
ON, HALF, THIRD, DOUBLE = text(("on", 2)), text(("rate", 1, 2)), text(("rate", 1, 3)), text(("rate", 2, 1))
OVER = str(Move((small, plain), (("read", 1, "next"),)))


def claims_about(random, one, other, told):
    """Claims of each kind about the moves, true ones and false ones."""
    for wish in random_wishes(random, one, other, told):
        if len(wish) > 1:
            claim = (wish[0], one, *wish[1:])
            yield claim
            yield opposite(claim)
    least = value(*one, first(*one))
    for frame in (least - 1, least, *range(least + 1, least + 6), least + random.randrange(60)):
        if frame >= 0:
            yield "missed", one, frame
    yield "doubled", one


def certificates_for(random, claim):
    """Numbers and frames that certify the claim, and others near to them."""
    moves = moves_of(claim)
    through, start = plain_through(*moves), max(first(*move) for move in moves)
    numbers = [through, 2 * through, through // 2, through - 1, through + 1, 3 * through, 0, 1, plain_through(moves[0])]
    frames = [start - 1, start, start + 1, *[start + random.randrange(2 * through) for _ in range(3)], start + FAR]
    if claim[0] in THE_SAME:
        shown = next((frame for frame in range(start + 3 * through) if breaks(opposite(claim), frame)), 0)
        frames += [shown - 1, shown, shown + 1]
    if claim[0] == "missed":
        frames += [frame for frame in range(start, start + 70) if value(*moves[0], frame) < claim[2]][-1:]
    return [number for number in (*numbers, *frames) if number >= 0]


class OneByOne(unittest.TestCase):
    @classmethod
    def setUpClass(cls):
        random = Random("claims")
        cls.cases = []
        for one, other in pairs("checker", 120, longest=40):
            told = Told(one, other, rounds=3)
            for claim in claims_about(random, one, other, told):
                for certificate in certificates_for(random, claim):
                    cls.cases.append((claim, certificate, accepts(written(claim), certificate)))

    def test_by_the_words_of_the_document(self):
        seen = Counter()
        for claim, certificate, accepted in self.cases:
            self.assertIs(accepted, plain_accepts(claim, certificate), (claim, certificate))
            seen[claim[0], accepted] += 1
        for word in (*THE_SAME, *THE_SAME.values(), "missed", "doubled"):
            self.assertGreater(seen[word, True], 50, word)
            self.assertGreater(seen[word, False], 50, word)

    def test_what_is_accepted_is_true(self):
        for claim, _, accepted in self.cases:
            if accepted and claim[0] in THE_SAME.values():
                start = max(first(*move) for move in moves_of(claim))
                self.assertFalse([frame for frame in (*range(150), *range(start + FAR, start + FAR + 20)) if breaks(claim, frame)])
            elif accepted and claim[0] == "missed":
                self.assertTrue(is_missed(claim[1], claim[2]))

    def test_a_claim_and_its_opposite_are_never_both_accepted(self):
        accepted = {claim for claim, _, told in self.cases if told}
        both = [claim for claim in accepted if claim[0] in THE_SAME and opposite(claim) in accepted]
        self.assertEqual(both, [])
        # One of them mostly is.
        asked = {claim for claim, _, _ in self.cases if claim[0] in THE_SAME}
        self.assertGreater(len([claim for claim in asked if claim in accepted or opposite(claim) in accepted]), len(asked) // 2)


class CheckerCase(Raising):
    def assert_accepted(self, claim, *certificates):
        for certificate in certificates:
            self.assertIs(accepts(claim, certificate), True, certificate)

    def assert_refused(self, claim, *certificates):
        for certificate in certificates:
            self.assertIs(accepts(claim, certificate), False, certificate)


class Numbers(CheckerCase):
    alike = ("alike", text(("label", 6, "next")), text(("on", 5)))

    def test_right_numbers_multiples_parts_and_neighbours(self):
        self.assert_accepted(self.alike, 5, 10, 15, 100, 20000)
        self.assert_refused(self.alike, 0, 1, 2, 3, 4, 6, 7, 9, 11, 19999, 20001, 20005, 5 * FAR)

    def test_twenty_thousand_and_just_above(self):
        for claim in (
            ("alike", ON, ON), ("later", ON, ON), ("within", ON, ON, 0, 0), ("stretch", ON, 3, 3, 3), ("later", DOUBLE, ON[:-4] + "on 0"),
        ):
            self.assert_accepted(claim, 1, 2, 19999, 20000)
            self.assert_refused(claim, 0, 20001, 20002, 40000, 10 ** 40, *INTEGERS_BELOW)
        long = text(DOWN, DOWN)
        self.assert_accepted(("stretch", long, 0, 0, 0), 10000, 20000)
        self.assert_refused(("stretch", long, 0, 0, 0), 1, 5000, 9999, 10001, 15000, 30000)

    def test_numbers_that_go_through_one_move_alone(self):
        for word, *bounds in (("alike",), ("later",), ("within", -9, 9)):
            claim = (word, HALF, text(("rate", 2, 4)), *bounds)
            self.assert_accepted(claim, 2, 4, 6)
            for other in (text(("rate", 1, 2), ("rate", 3, 3)), text(("rate", 1, 6), ("rate", 3, 1))):
                self.assert_refused((word, HALF, other, *bounds), 1, 3, 5)
        # Alike, but a third of the number goes through only one of them.
        claim = ("alike", text(("rate", 1, 2)), text(("rate", 1, 2), ("rate", 3, 1), ("rate", 1, 3)))
        self.assert_accepted(claim, 2)
        claim = ("within", HALF, THIRD, -FAR, FAR)
        self.assert_refused(claim, 2, 3, 4, 6, 12)
        self.assert_accepted(("later", HALF, THIRD), 6, 12, 18)
        self.assert_refused(("later", HALF, THIRD), 1, 2, 3, 4, 8, 9, 10)

    def test_numbers_that_become_unlike_numbers(self):
        # For so many frames the claim holds, but not for all.
        self.assert_refused(("within", DOUBLE, text(), 0, 9), 1, 5, 10)
        self.assert_refused(("later", text(("on", 9)), DOUBLE), 1, 5, 9, 10)
        self.assert_refused(("alike", text(), DOUBLE), 1)
        self.assert_refused(("alike", text(("rate", 1, 50)), text(("rate", 1, 50), ("rate", 2, 1))), 50, 100)
        self.assert_accepted(("later", DOUBLE, text()), 1, 2, 7)
        self.assert_refused(("later", text(), DOUBLE), 1, 2, 7)
        self.assert_refused(("later", DOUBLE, text(("on", 1))), 1, 2, 7)

    def test_too_long_together(self):
        long, third = text(DOWN, DOWN), THIRD
        for word, *bounds in (("alike",), ("later",), ("within", -FAR, FAR)):
            self.assert_refused((word, long, third, *bounds), 1, 3, 10000, 20000, 30000)
            self.assert_refused((word, third, long, *bounds), 1, 3, 10000, 20000, 30000)
        # A frame shows the opposite all the same.
        self.assert_accepted(("unlike", long, third), 3, 4, FAR)
        self.assert_accepted(("earlier", long, third), 3, FAR)
        self.assert_accepted(("beyond", long, third, 0, 5), 3, FAR)
        self.assert_refused(("beyond", third, long, 0, 5), 3, 17)

    def test_first_frames(self):
        early, late = text(), text(("back", 3), ("on", 3))
        self.assert_refused(("alike", early, late), 1, 3, 10)
        self.assert_refused(("alike", late, early), 1, 3, 10)
        self.assert_accepted(("within", early, late, 0, 0), 1, 3, 10)
        self.assert_accepted(("later", late, early), 1, 3, 10)
        self.assert_accepted(("alike", late, text(("back", 2), ("back", 1), ("on", 3))), 1, 3, 10)
        most = 10 ** 40
        far = text(("back", most))
        self.assert_accepted(("alike", far, text(("back", most - 1), ("back", 1))), 1, 20000)
        self.assert_refused(("alike", far, text(("back", most - 1), ("back", 2))), 1, 20000)
        self.assert_accepted(("within", far, text(), -most, -most), 1)

    def test_bounds_just_met_and_just_missed(self):
        label = text(("label", 2, "next"))
        for low, high, right in ((-1, 0, True), (-2, 0, True), (-1, 1, True), (0, 0, False), (-1, -1, False), (0, -1, False), (-FAR, FAR, True)):
            self.assertIs(accepts(("within", label, ON, low, high), 5), right)
            self.assertIs(accepts(("within", label, ON, low, high), 10), right)
            self.assert_refused(("within", label, ON, low, high), 1, 2, 3, 4, 6)
        for low, high, right in ((4, 5, True), (3, 6, True), (4, 4, False), (5, 5, False), (5, 4, False), (-FAR, FAR, True)):
            self.assertIs(accepts(("stretch", OVER, 4, low, high), 5), right)
            self.assert_refused(("stretch", OVER, 4, low, high), 1, 2, 3, 4, 6)

    def test_stretched_by_thirty_figures(self):
        self.assert_accepted(("stretch", OVER, 5 * FAR, 6 * FAR, 6 * FAR), 5, 10)
        self.assert_refused(("stretch", OVER, 5 * FAR, 6 * FAR + 1, 6 * FAR + 1), 5, 10)
        self.assert_accepted(("stretch", OVER, 5 * FAR + 4, 6 * FAR + 4, 6 * FAR + 5), 5)
        self.assert_refused(("stretch", OVER, 5 * FAR + 4, 6 * FAR + 4, 6 * FAR + 4), 5)


class Frames(CheckerCase):
    label = text(("label", 2, "next"))

    def test_unlike(self):
        self.assert_accepted(("unlike", self.label, ON), 4, 9, 5 * FAR + 4)
        self.assert_refused(("unlike", self.label, ON), 0, 3, 5, 5 * FAR + 3)
        # Lost frames count.
        back = text(("back", 3), ("on", 5))
        self.assert_accepted(("unlike", back, ON), 0, 1, 2)
        self.assert_accepted(("unlike", ON, back), 0, 1, 2)
        self.assert_refused(("unlike", ON, back), 3, 4, FAR)
        self.assert_refused(("unlike", back, text(("back", 3))), 0, 1, 2)
        self.assert_accepted(("unlike", back, text(("back", 3))), 3)

    def test_earlier(self):
        self.assert_accepted(("earlier", self.label, ON), 4, 9, 5 * FAR + 4)
        self.assert_refused(("earlier", self.label, ON), 0, 3, 5)
        self.assert_refused(("earlier", ON, self.label), 0, 3, 4, 5)
        self.assert_accepted(("earlier", text(("on", FAR)), DOUBLE), FAR + 1)
        self.assert_refused(("earlier", text(("on", FAR)), DOUBLE), FAR - 1, FAR, 0)
        # Lost frames do not.
        back = text(("back", 3))
        self.assert_accepted(("earlier", back, ON), 3, 4)
        self.assert_refused(("earlier", back, ON), 0, 1, 2)
        self.assert_refused(("earlier", ON, back), 0, 1, 2, 3)

    def test_beyond(self):
        claim = ("beyond", DOUBLE, ON, -2, FAR)
        self.assert_accepted(claim, FAR + 3, FAR + 4, 2 * FAR)
        self.assert_refused(claim, 0, 1, 2, FAR + 2)
        self.assert_accepted(("beyond", DOUBLE, ON, -1, FAR), 0, FAR + 3)
        self.assert_refused(("beyond", DOUBLE, ON, -1, FAR), 1, FAR + 2)
        self.assert_accepted(("beyond", DOUBLE, ON, 1, 0), 0, 1, 2, 3)
        back = text(("back", 3))
        self.assert_refused(("beyond", back, ON, 5, 9), 0, 1, 2)
        self.assert_accepted(("beyond", back, ON, 5, 9), 3)

    def test_stretched(self):
        claim = ("stretched", OVER, 4, 4, 4)
        self.assert_accepted(claim, 1, 6, 5 * FAR + 1)
        self.assert_refused(claim, 0, 5, 5 * FAR)
        self.assert_accepted(("stretched", OVER, 4, 5, 5), 0, 5)
        self.assert_accepted(("stretched", OVER, 4, 5, 4), 0, 1, 2)
        self.assert_refused(("stretched", OVER, 4, 4, 5), 0, 1, 2, 3, 4)
        back = text(("back", 3), ("rate", 1, 2))
        self.assert_refused(("stretched", back, 1, 5, 9), 0, 1, 2)
        self.assert_accepted(("stretched", back, 1, 5, 9), 3)

    def test_missed(self):
        self.assert_accepted(("missed", OVER, 6), 4)
        self.assert_refused(("missed", OVER, 6), 0, 3, 5, 6)
        self.assert_accepted(("missed", OVER, 6 * FAR), 5 * FAR - 1)
        self.assert_refused(("missed", OVER, 6 * FAR), 5 * FAR - 2, 5 * FAR)
        # Frame 0 is below the value for the first frame, the others are values.
        for frame in (0, 1, 2, 5, 7):
            self.assert_refused(("missed", OVER, frame), *range(9))
        most = 10 ** 40
        far = text(("back", most), ("rate", 3, 1))
        self.assert_accepted(("missed", far, 1), most)
        self.assert_accepted(("missed", far, 2), most)
        self.assert_accepted(("missed", far, 4), most + 1)
        self.assert_refused(("missed", far, 0), 0, most - 1, most)
        self.assert_refused(("missed", far, 1), 0, most - 1, most + 1)
        self.assert_refused(("missed", far, 3), most, most + 1)
        on = text(("on", 5), ("rate", 2, 1))
        self.assert_refused(("missed", on, 9), 0, 1)
        self.assert_refused(("missed", on, 10), 0, 1)
        self.assert_accepted(("missed", on, 11), 0)

    def test_doubled(self):
        claim = ("doubled", text(("rate", 2, 3)))
        self.assert_accepted(claim, 0, 3, 3 * FAR)
        self.assert_refused(claim, 1, 2, 4, 3 * FAR + 1)
        self.assert_refused(("doubled", OVER), *range(9))
        back = ("doubled", text(("back", 3), ("rate", 1, 2)))
        self.assert_refused(back, 0, 1, 2, 4)
        self.assert_accepted(back, 3, 5)


# For each kind a claim and a certificate for it.
RIGHT = (
    (("alike", text(("label", 6, "next")), text(("on", 5))), 5), (("later", ON, text()), 1), (("within", ON, text(), 2, 2), 1),
    (("stretch", OVER, 4, 4, 5), 5), (("unlike", ON, DOUBLE), 1), (("earlier", text(), ON), 0), (("beyond", ON, text(), 0, 1), 0),
    (("stretched", OVER, 4, 4, 4), 1), (("missed", OVER, 6), 4), (("doubled", HALF), 0),
)


class WhateverBothAre(CheckerCase):
    def test_right_ones(self):
        self.assertEqual(len({claim[0] for claim, _ in RIGHT}), 10)
        for claim, certificate in RIGHT:
            self.assert_accepted(claim, certificate)

    def test_values_that_are_no_certificates(self):
        for claim, certificate in RIGHT:
            others = ([certificate], (certificate,), str(certificate), claim, {certificate: 1}, small, move())
            self.assert_refused(claim, *NO_INTEGERS, *INTEGERS_BELOW, *others)

    def test_values_that_are_no_claims(self):
        others = (0, 1, "alike", ON, ["doubled", HALF], ("doubled",), (HALF,), small, move(), {"doubled": HALF}, Move)
        for value_told in (*OTHER_KINDS, *TRUTHS, *STRINGS, *TUPLES_OF_INTEGERS, *INTEGERS_BELOW, *others):
            for certificate in (0, 1, 2, 5, None, value_told):
                self.assertIs(accepts(value_told, certificate), False)

    def test_a_list_for_the_tuple(self):
        for claim, certificate in RIGHT:
            self.assert_refused(list(claim), certificate)

    def test_shorter_and_longer(self):
        for claim, certificate in RIGHT:
            for other in (claim[:-1], claim[1:], claim[:1], (*claim, 0), (*claim, None), (*claim, ON), (claim,), claim + claim):
                self.assert_refused(other, certificate)

    def test_other_words(self):
        for claim, certificate in RIGHT:
            for word in ("", claim[0].title(), claim[0] + " ", claim[0][:-1], "full", "single", "x", *NO_NUMBERS, 0):
                self.assert_refused((word, *claim[1:]), certificate)

    def test_each_element_otherwise(self):
        for claim, certificate in RIGHT:
            for at, part in enumerate(claim[1:], start=1):
                wrong = (*NO_NUMBERS, 0, *NO_TEXTS) if isinstance(part, str) else (*NO_INTEGERS, ON, str(part))
                for other in wrong:
                    self.assert_refused((*claim[:at], other, *claim[at + 1:]), certificate)

    def test_numbers_below_0(self):
        for claim, certificate in RIGHT:
            if claim[0] in ("stretch", "stretched", "missed"):
                self.assert_refused((*claim[:2], -1, *claim[3:]), certificate)

    def test_texts_of_moves_that_cannot_be_made(self):
        long = "\n".join([ON, "rate 1 100", "rate 1 100", "rate 1 3"])
        for claim, certificate in RIGHT:
            self.assert_refused((claim[0], long, *claim[2:]), certificate)
        self.assert_refused(("unlike", ON, long), 0, 1, 2)

    def test_neither_is_compared_by_its_own_class(self):
        for odd in (Agreeing(), Refusing()):
            self.assert_refused(odd, odd)
            self.assert_refused((odd, ON, ON), 1)
            self.assert_refused(("alike", odd, ON), 1)
            self.assert_refused(("alike", ON, ON), odd)

    def test_by_position_and_by_name(self):
        for claim, certificate in RIGHT:
            self.assertIs(accepts(certificate=certificate, claim=claim), True)
            self.assertIs(accepts(claim, certificate=certificate), True)
            self.assertIs(accepts(certificate=claim, claim=certificate), False)


class Drop(CheckerCase):
    def test_labels_of_television(self):
        over = str(Move((drop, full), (("read", 1, "next"),)))
        self.assert_accepted(("stretch", over, 1800, 1800, 1804), 17982)
        self.assert_refused(("stretch", over, 1800, 1800, 1803), 17982)
        self.assert_refused(("stretch", over, 1800, 1800, 1804), 17981, 17983, 8991, 35964)
        there_and_back = str(Move((drop, full), (("read", 1, "next"), ("read", 0, "next"))))
        self.assert_accepted(("alike", there_and_back, str(Move((drop,)))), 17982)
        self.assert_refused(("alike", there_and_back, str(Move((drop,)))), 1, 8991)


if __name__ == "__main__":
    unittest.main()
