"""Certificates, which the checker accepts: [18], [17], [2] (Checker)."""

import unittest
from collections import Counter

from plain_claims import plain_accepts, plain_goes_through
from plain_houses import DROP
from plain_moves import FAR, PLAIN, SMALL, made, plain_text, random_moves
from plain_pairs import Told, pairs
from plain_wishes import apart, first, is_doubled, is_missed, shows, stretched, value
from raising import Raising
from test_shown import NO_INTEGERS, NO_NUMBERS, move, text
from wrong_values import INTEGERS_BELOW

from labelmoves.certificates import certify_alike, certify_doubled, certify_missed, certify_stretch, certify_within
from labelmoves.checker import accepts
from labelmoves.comparing import distances, first_unlike
from labelmoves.errors import InvalidNumber, NotAMove
from labelmoves.houses import House
from labelmoves.lengths import first_doubled, first_missed, stretch
from labelmoves.moves import Move

small, plain, drop = House(*SMALL), House(*PLAIN), House(*DROP)
ON, OVER = move(("on", 2)), Move((small, plain), (("read", 1, "next"),))


def least_number(claim):
    """The least number above 0 that goes through and becomes the same."""
    return next(number for number in range(1, 20001) if plain_goes_through(claim, number))


class CertificateCase(Raising):
    def assert_certified(self, told, plain_claim):
        """The pair is of the claim, in texts, and of a certificate for it; returns the certificate."""
        self.assertEqual((type(told), len(told)), (tuple, 2))
        claim, certificate = told
        self.assertEqual(claim, tuple(plain_text(*part) if isinstance(part, tuple) else part for part in plain_claim))
        self.assertEqual([type(part) for part in claim], [str if isinstance(part, (str, tuple)) else int for part in plain_claim])
        self.assertIs(type(certificate), int)
        self.assertIs(accepts(claim, certificate), True)
        self.assertIs(plain_accepts(plain_claim, certificate), True)
        return certificate


class OneByOne(CertificateCase):
    @classmethod
    def setUpClass(cls):
        cls.pairs = [(one, other, Told(one, other, rounds=3)) for one, other in pairs("certified", 200, longest=60)]
        cls.moves = random_moves("certified", 200, longest=40)

    def test_alike(self):
        seen = Counter()
        for one, other, told in self.pairs:
            frame = next((at for at in told.frames if shows(one, ("alike", other), at)), None)
            claim = ("alike" if frame is None else "unlike", one, other)
            certificate = self.assert_certified(certify_alike(made(*one), made(*other)), claim)
            self.assertEqual(certificate, least_number(claim) if frame is None else frame)
            seen[claim[0]] += 1
        self.assertGreater(min(seen.values()), 5)
        self.assertEqual(len(seen), 2)

    def test_each_move_is_alike_to_itself(self):
        for told in self.moves:
            claim = ("alike", told, told)
            self.assertEqual(self.assert_certified(certify_alike(made(*told), made(*told)), claim), least_number(claim))

    def test_within(self):
        seen = Counter()
        for one, other, told in self.pairs:
            certified = certify_within(made(*one), made(*other))
            seen[told.growth == 0] += 1
            if told.growth:
                self.assertIsNone(certified)
            else:
                claim = ("within", one, other, min(told.apart), max(told.apart))
                self.assertEqual(self.assert_certified(certified, claim), least_number(claim))
        self.assertGreater(min(seen.values()), 20)

    def test_stretch(self):
        for told in self.moves:
            least = least_number(("stretch", told))
            for many in (0, 1, 5, least, FAR):
                lengths = [stretched(told, many, first(*told) + at) for at in range(least)]
                claim = ("stretch", told, many, min(lengths), max(lengths))
                self.assertEqual(self.assert_certified(certify_stretch(made(*told), many), claim), least)

    def test_missed(self):
        seen = Counter()
        for told in self.moves:
            start = value(*told, first(*told))
            frame = next((at for at in range(start, start + 150) if is_missed(told, at)), None)
            seen[frame is None] += 1
            certified = certify_missed(made(*told))
            if frame is None:
                self.assertIsNone(certified)
            else:
                below = [at for at in range(first(*told), first(*told) + 150) if value(*told, at) < frame]
                self.assertEqual(self.assert_certified(certified, ("missed", told, frame)), below[-1])
        self.assertGreater(min(seen.values()), 20)

    def test_doubled(self):
        seen = Counter()
        for told in self.moves:
            frame = next((at for at in range(first(*told) + 150) if is_doubled(told, at)), None)
            seen[frame is None] += 1
            certified = certify_doubled(made(*told))
            if frame is None:
                self.assertIsNone(certified)
            else:
                self.assertEqual(self.assert_certified(certified, ("doubled", told)), frame)
        self.assertGreater(min(seen.values()), 20)


class Pairs(CertificateCase):
    def test_alike(self):
        one, two = move(("label", 6, "next")), move(("on", 5))
        self.assertEqual(certify_alike(one, two), (("alike", str(one), str(two)), 5))
        self.assertEqual(certify_alike(two, two), (("alike", str(two), str(two)), 1))
        # 50 and 2 go through.
        half = move(("rate", 1, 50)), move(("rate", 2, 100))
        self.assertEqual(certify_alike(*half), (("alike", str(half[0]), str(half[1])), 50))

    def test_the_least_number_goes_through_both_moves(self):
        # The values of both are those of their frames, but only ten frames go through the second one.
        one, other = move(), move(("rate", 10, 1), ("rate", 1, 10))
        self.assertEqual(certify_alike(one, other)[1], 1)
        one, other = move(), move(("label", 6, "next"), ("back", 5))
        self.assertEqual(certify_alike(one, other)[1], 5)
        self.assertEqual(certify_within(one, other)[1], 5)
        # Its round is shorter than what goes through.
        on = move(("label", 6, "next"))
        self.assertEqual(on.round, (1, 1))
        self.assertEqual(certify_stretch(on, 3), (("stretch", str(on), 3, 3, 3), 5))

    def test_unlike(self):
        self.assertEqual(certify_alike(ON, move(("on", 3))), (("unlike", str(ON), text(("on", 3))), 0))
        back, most = move(("back", 10 ** 40)), 10 ** 40
        other = move(("back", most - 1), ("back", 2))
        self.assertEqual(certify_alike(back, other), (("unlike", str(back), str(other)), most))

    def test_unlike_growth(self):
        double = move(("rate", 2, 1))
        self.assertEqual(certify_alike(ON, double), (("unlike", str(ON), str(double)), 0))
        self.assertIsNone(certify_within(ON, double))
        self.assertIsNone(certify_within(double, ON))
        slow, slower = move(("rate", 1, 50)), move(("rate", 1, 100))
        self.assertEqual(certify_alike(slow, slower)[1], 50)
        self.assertIsNone(certify_within(slow, slower))

    def test_within(self):
        label = move(("label", 2, "next"))
        self.assertEqual(certify_within(label, ON), (("within", str(label), str(ON), -1, 0), 5))
        self.assertEqual(certify_within(ON, label), (("within", str(ON), str(label), 0, 1), 5))
        most = 10 ** 40
        self.assertEqual(certify_within(move(("on", most)), ON)[0][3:], (most - 2, most - 2))

    def test_labels_of_television(self):
        told, counted = Move((drop,), (("label", 1800, "next"),)), Move((drop,), (("on", 1798),))
        self.assertEqual(certify_within(told, counted), (("within", str(told), str(counted), 0, 2), 17982))
        self.assertIs(accepts(*certify_within(told, counted)), True)
        self.assertEqual(certify_alike(told, counted), (("unlike", str(told), str(counted)), 0))


class Single(CertificateCase):
    def test_stretch(self):
        self.assertEqual(certify_stretch(OVER, 4), (("stretch", str(OVER), 4, 4, 5), 5))
        self.assertEqual(certify_stretch(ON, 7), (("stretch", str(ON), 7, 7, 7), 1))
        self.assertEqual(certify_stretch(OVER, 5 * FAR), (("stretch", str(OVER), 5 * FAR, 6 * FAR, 6 * FAR), 5))

    def test_missed(self):
        self.assertEqual(certify_missed(OVER), (("missed", str(OVER), 6), 4))
        self.assertIsNone(certify_missed(ON))
        self.assertIsNone(certify_missed(move(("rate", 1, 3))))
        most = 10 ** 40
        far = move(("back", most), ("rate", 3, 1))
        self.assertEqual(certify_missed(far), (("missed", str(far), 1), most))

    def test_doubled(self):
        half = move(("back", 10 ** 40), ("rate", 2, 3))
        self.assertEqual(certify_doubled(half), (("doubled", str(half)), 10 ** 40))
        self.assertIsNone(certify_doubled(ON))
        self.assertIsNone(certify_doubled(OVER))

    def test_moves_that_lose_frames_of_forty_figures(self):
        most = 10 ** 40
        for steps in ((("back", most),), (("back", most), ("label", 7, "next")), (("unlabel", most, "last"), ("rate", 3, 7)), (("back", most), ("to", 0))):
            far = move(*steps)
            self.assertGreaterEqual(far.first, 5 * most // 6)
            for certified in (certify_alike(far, ON), certify_alike(far, far), certify_within(far, far), certify_stretch(far, 3), certify_missed(far), certify_doubled(far)):
                if certified is not None:
                    self.assertIs(accepts(*certified), True)


class AsTold(CertificateCase):
    """What the certificates claim is what the other functions tell."""

    def test_the_same_answers(self):
        for one in (ON, OVER, move(("back", 7)), move(("rate", 2, 3)), Move((plain, small), (("read", 1, "last"),))):
            for other in (ON, OVER, move(("unlabel", 4, "last"))):
                frame, bounds = first_unlike(one, other), distances(one, other)
                certificate = certify_alike(one, other)[1]
                if frame is not None:
                    self.assertEqual(certificate, frame)
                within = certify_within(one, other)
                self.assertEqual(within and within[0][3:], None if None in bounds else bounds)
            for many in (0, 3, FAR):
                self.assertEqual(certify_stretch(one, many)[0][2:], (many, *stretch(one, many)))
            missed, doubled = certify_missed(one), certify_doubled(one)
            self.assertEqual(missed and missed[0][2], first_missed(one))
            self.assertEqual(doubled and doubled[1], first_doubled(one))


class Errors(CertificateCase):
    long, third = move(("rate", 1, 100), ("rate", 1, 100)), move(("rate", 1, 3))
    NO_MOVES = (0, 1, str(ON), [ON], (ON,), Move, small, *INTEGERS_BELOW, *[value_told for value_told in NO_INTEGERS if not isinstance(value_told, Move)])

    def test_no_moves(self):
        for given in self.NO_MOVES:
            for call in (certify_alike, certify_within):
                self.assert_given(NotAMove, given, call, given, ON)
                self.assert_given(NotAMove, given, call, ON, given)
            for call in (certify_missed, certify_doubled):
                self.assert_given(NotAMove, given, call, given)
            self.assert_given(NotAMove, given, certify_stretch, given, 3)

    def test_no_numbers(self):
        for given in NO_NUMBERS:
            self.assert_given(InvalidNumber, given, certify_stretch, ON, given)

    def test_in_their_order(self):
        left, right = object(), object()
        for call in (certify_alike, certify_within):
            self.assert_given(NotAMove, left, call, left, right)
            self.assert_given(NotAMove, right, call, self.long, right)
        self.assert_given(NotAMove, left, certify_stretch, left, right)

    def test_too_long(self):
        for call in (certify_alike, certify_within):
            self.assert_too_long(call, self.long, self.third)
            self.assert_too_long(call, self.third, self.long)
        self.assertEqual(certify_alike(self.long, self.long)[1], 10000)
        self.assertEqual(certify_stretch(self.long, 10000)[1], 10000)
        # They are unlike, but are looked at together all the same.
        self.assert_too_long(call, self.long, move(("on", 1), ("rate", 1, 3)))

    def test_by_position_and_by_name(self):
        for call in (certify_alike, certify_within):
            self.assertEqual(call(other=ON, one=ON), call(ON, ON))
            self.assertEqual(call(ON, other=OVER), call(ON, OVER))
        self.assertEqual(certify_stretch(many=4, move=OVER), certify_stretch(OVER, 4))
        self.assertEqual(certify_missed(move=OVER), certify_missed(OVER))
        self.assertEqual(certify_doubled(move=self.third), certify_doubled(self.third))

    def test_the_same_again_is_equal(self):
        told = [(certify_alike(ON, OVER), certify_within(OVER, OVER), certify_stretch(OVER, 4), certify_missed(OVER), certify_doubled(self.third)) for _ in range(2)]
        self.assertEqual(told[0], told[1])
        self.assertEqual(str(ON), f"{small}\nmove\non 2")


class FramesOfPairs(unittest.TestCase):
    def test_unlike_frames_are_the_least_ones(self):
        for one, other in pairs("least", 100, longest=60):
            claim, certificate = certify_alike(made(*one), made(*other))
            if claim[0] == "unlike":
                self.assertFalse([at for at in range(certificate) if value(*one, at) != value(*other, at)])
                self.assertIsNotNone(apart(one, other, certificate) if certificate >= max(first(*one), first(*other)) else 0)


if __name__ == "__main__":
    unittest.main()
