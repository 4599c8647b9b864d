"""Wishes, and the frames that show that they do not hold: [16]."""

import unittest
from collections import Counter
from random import Random

from plain_houses import DROP
from plain_moves import FAR, PLAIN, SMALL, made
from plain_pairs import Told, pairs
from plain_wishes import random_wishes, shows, written
from raising import Raising
from wrong_values import INTEGERS_BELOW, OTHER_KINDS, STRINGS, TRUTHS, TUPLES_OF_INTEGERS, Agreeing

from labelmoves.errors import InvalidText, InvalidWish, NotAMove
from labelmoves.houses import House
from labelmoves.mends import shown_against
from labelmoves.moves import Move

small, plain, drop, full = House(*SMALL), House(*PLAIN), House(*DROP), House((60, 60, 30))
NO_INTEGERS = (*OTHER_KINDS, *TRUTHS, *STRINGS, *TUPLES_OF_INTEGERS, small, Move((small,)))
NO_NUMBERS = (*NO_INTEGERS, *INTEGERS_BELOW)


def move(*steps, houses=(small,)):
    return Move(houses, steps)


def text(*steps, houses=(small,)):
    return str(Move(houses, steps))


ON = move(("on", 2))
# Texts of moves that cannot be made, and strings that are near to the text of one.
NO_TEXTS = (
    *STRINGS, str(small), f"{small}\nmove\n", f"{small}\nmove \non 2", f"{small}\nMove\non 2", f"{small}\nmove\non 02",
    f"{small}\nmove\non 2\n", f"{small}\nmove\non  2", f" {small}\nmove\non 2", f"{small}\nmove\non 2 ", f"{small}\nmove\non -2",
    f"{small}\nmove\non 2 next", f"{small}\nmove\nread 1 next", f"{small}\nmove\non {10 ** 40 + 1}", f"{small}\nmove\nrate 1 101",
    "move\non 2", f"{small}\non 2", "\n".join([str(small)] * 4 + ["move"]), f"{small}\nmove" + "\non 2" * 9,
    f"{small}\nmove" + "\nrate 1 100" * 3, "house 60 60 30\nskip 0 60 1\nskip 0 59 1\nmove", "house 60 60 30\nmove\nto 0",
)


class OneByOne(Raising):
    @classmethod
    def setUpClass(cls):
        random = Random("wishes")
        cls.cases = []
        for one, other in pairs("shown", 250, longest=120):
            told = Told(one, other, rounds=4)
            for wish in random_wishes(random, one, other, told):
                cls.cases.append((one, wish, told, shown_against(made(*one), written(wish))))

    def expected(self, one, wish, told):
        """The least frame, of those that have been told, that shows it."""
        frames = range(made(*one).of(told.frames[-1])) if wish[0] == "full" else told.frames
        return next((frame for frame in frames if shows(one, wish, frame)), None)

    def never(self, wish, told):
        """Whether the distances do not leave the bounds later on."""
        if wish[0] == "later":
            return told.growth >= 0
        return told.growth == 0 or wish[0] not in ("alike", "within")

    def test_least_frame_that_shows_it(self):
        seen = Counter()
        for one, wish, told, frame in self.cases:
            expected = self.expected(one, wish, told)
            if expected is not None:
                self.assertEqual(frame, expected, wish)
            elif frame is None:
                self.assertTrue(self.never(wish, told), wish)
            else:
                self.assertFalse(self.never(wish, told), wish)
                self.assertGreaterEqual(frame, len(told.frames))
                self.assertTrue(shows(one, wish, frame), wish)
                # Each distance grows or falls from round to round, so it would have shown in the round ahead.
                self.assertFalse([ahead for ahead in range(frame - told.many, frame) if shows(one, wish, ahead)], wish)
            seen[wish[0], "now" if expected is not None else "never" if frame is None else "far"] += 1
        for word in ("alike", "later", "within", "stretch", "full", "single"):
            self.assertGreater(seen[word, "now"], 20)
            self.assertGreater(seen[word, "never"], 20)
        self.assertGreater(seen["within", "far"], 20)

    def test_of_which_kinds_they_are(self):
        for _, _, _, frame in self.cases:
            self.assertIn(type(frame), (int, type(None)))


class Alike(Raising):
    def test_holds(self):
        self.assertIsNone(shown_against(ON, ("alike", text(("on", 2)))))
        self.assertIsNone(shown_against(ON, ("alike", text(("on", 1), ("on", 1)))))
        self.assertIsNone(shown_against(ON, ("alike", text(("call", 1), ("on", 2), houses=(drop, plain)))))
        self.assertIsNone(shown_against(move(("label", 6, "next")), ("alike", text(("on", 5)))))

    def test_shown(self):
        self.assertEqual(shown_against(ON, ("alike", text(("on", 3)))), 0)
        self.assertEqual(shown_against(ON, ("alike", text(("label", 2, "next")))), 4)
        self.assertEqual(shown_against(move(("label", 2, "next")), ("alike", str(ON))), 4)

    def test_texts_of_moves_that_lose_other_frames(self):
        back, there = move(("back", 3), ("on", 3)), move()
        self.assertEqual(shown_against(back, ("alike", str(there))), 0)
        self.assertEqual(shown_against(there, ("alike", str(back))), 0)
        self.assertEqual(shown_against(move(("back", 10 ** 40)), ("alike", text(("back", 10 ** 40 - 1), ("back", 2)))), 10 ** 40)


class Later(Raising):
    def test_holds(self):
        for other in (("on", 2),), (("on", 1),), (), (("rate", 1, 2),), (("back", 9),):
            self.assertIsNone(shown_against(ON, ("later", text(*other))))

    def test_shown(self):
        self.assertEqual(shown_against(ON, ("later", text(("on", 3)))), 0)
        self.assertEqual(shown_against(ON, ("later", text(("label", 2, "next")))), None)
        self.assertEqual(shown_against(move(("label", 2, "next")), ("later", str(ON))), 4)

    def test_shown_after_thirty_figures(self):
        self.assertEqual(shown_against(move(("on", FAR)), ("later", text(("rate", 2, 1)))), FAR + 1)
        self.assertEqual(shown_against(move(("on", FAR)), ("later", text(("rate", 100, 99)))), 99 * FAR + 99)
        self.assertIsNone(shown_against(move(("rate", 2, 1), ("on", FAR)), ("later", text(("on", FAR)))))

    def test_lost_frames_do_not_matter(self):
        # Below frame 9, `slow` would be behind.
        slow, fast = move(("back", 9), ("on", 9), ("rate", 3, 1)), text(("on", 17))
        self.assertIsNone(shown_against(slow, ("later", fast)))
        self.assertEqual(shown_against(move(("on", 17)), ("later", str(slow))), 9)


class Within(Raising):
    label = move(("label", 2, "next"))

    def test_bounds_just_met_and_just_missed(self):
        # The distances are -1 (for frame 4 first) and 0 (for frame 0 first).
        for low, high, frame in (
            (-1, 0, None), (-2, 0, None), (-1, 1, None), (-FAR, FAR, None), (0, 0, 4), (0, 1, 4), (-1, -1, 0), (-2, -1, 0),
            (1, 5, 0), (-5, -2, 0), (FAR, FAR, 0), (-FAR, -FAR, 0), (-1, FAR, None), (-FAR, 0, None), (0, FAR, 4), (-FAR, -1, 0),
        ):
            self.assertEqual(shown_against(self.label, ("within", str(ON), low, high)), frame)

    def test_bounds_with_none_between(self):
        for low, high in ((1, 0), (0, -1), (5, -5), (FAR, -FAR)):
            self.assertEqual(shown_against(self.label, ("within", str(ON), low, high)), 0)
            self.assertEqual(shown_against(move(("back", 5)), ("within", str(ON), low, high)), 5)

    def test_from_the_first_frame_of_both_on(self):
        back = move(("back", 5), ("rate", 2, 1))
        self.assertEqual(shown_against(back, ("within", str(ON), -7, FAR)), FAR + 13)
        self.assertEqual(shown_against(back, ("within", str(ON), -6, FAR)), 5)
        self.assertEqual(shown_against(ON, ("within", str(back), -FAR, 7)), FAR + 13)
        self.assertEqual(shown_against(ON, ("within", str(back), -FAR, 6)), 5)

    def test_growing_and_falling(self):
        double = move(("rate", 2, 1))
        self.assertEqual(shown_against(double, ("within", str(ON), -2, FAR)), FAR + 3)
        self.assertEqual(shown_against(double, ("within", str(ON), -1, FAR)), 0)
        self.assertEqual(shown_against(ON, ("within", str(double), -FAR, 2)), FAR + 3)
        self.assertEqual(shown_against(ON, ("within", str(double), -FAR, 1)), 0)
        self.assertEqual(shown_against(move(("rate", 100, 99)), ("within", text(), 0, FAR)), 99 * FAR + 99)
        # Within a round it goes up and down, and from round to round down.
        slow = move(("label", 2, "last"), ("rate", 1, 2), ("rate", 2, 1))
        shown = shown_against(slow, ("within", text(("rate", 3, 2)), -FAR, 5))
        told = [frame for frame in range(shown - 40, shown + 1) if slow.of(frame) - frame * 3 // 2 < -FAR]
        self.assertEqual(told, [shown])


class Stretch(Raising):
    over = Move((small, plain), (("read", 1, "next"),))

    def test_bounds_just_met_and_just_missed(self):
        # Four frames take four or five: for frame 0 four, for frame 1 five.
        for low, high, frame in ((4, 5, None), (3, 6, None), (4, 4, 1), (5, 5, 0), (0, 4, 1), (5, FAR, 0), (6, 9, 0), (5, 4, 0)):
            self.assertEqual(shown_against(self.over, ("stretch", 4, low, high)), frame)

    def test_from_the_first_frame_on(self):
        back = Move((small, plain), (("back", 7), ("read", 1, "next")))
        self.assertEqual(shown_against(back, ("stretch", 4, 4, 4)), 8)
        self.assertEqual(shown_against(back, ("stretch", 4, 5, 5)), 7)
        self.assertIsNone(shown_against(back, ("stretch", 4, 4, 5)))
        self.assertEqual(shown_against(move(("back", 10 ** 40)), ("stretch", 4, 5, 5)), 10 ** 40)

    def test_by_none_and_by_thirty_figures(self):
        self.assertIsNone(shown_against(self.over, ("stretch", 0, 0, 0)))
        self.assertEqual(shown_against(self.over, ("stretch", 0, 1, 1)), 0)
        self.assertEqual(shown_against(self.over, ("stretch", 0, -1, -1)), 0)
        self.assertIsNone(shown_against(self.over, ("stretch", 5 * FAR, 6 * FAR, 6 * FAR)))
        self.assertEqual(shown_against(self.over, ("stretch", 5 * FAR + 4, 6 * FAR + 4, 6 * FAR + 4)), 1)


class FullAndSingle(Raising):
    def test_full(self):
        for steps, frame in (((("on", 2),), None), ((("rate", 2, 1),), 1), ((("rate", 1, 3),), None), ((("label", 3, "next"),), 7)):
            self.assertEqual(shown_against(move(*steps), ("full",)), frame)
        self.assertEqual(shown_against(Stretch.over, ("full",)), 6)
        self.assertEqual(shown_against(move(("on", 10 ** 40), ("rate", 2, 1)), ("full",)), 2 * 10 ** 40 + 1)
        # Frames below the value for the first frame do not count.
        self.assertIsNone(shown_against(move(("on", 9)), ("full",)))

    def test_single(self):
        for steps, frame in (((("on", 2),), None), ((("rate", 2, 1),), None), ((("rate", 1, 3),), 0), ((("label", 2, "next"),), 3)):
            self.assertEqual(shown_against(move(*steps), ("single",)), frame)
        self.assertEqual(shown_against(move(("back", 10 ** 40), ("rate", 1, 3)), ("single",)), 10 ** 40)


class NoWishes(Raising):
    goal = str(ON)
    wishes = (
        ("alike", goal), ("later", goal), ("within", goal, -1, 1), ("stretch", 3, -1, 9), ("full",), ("single",),
    )

    def test_each_is_one(self):
        for wish in self.wishes:
            self.assertIsNone(shown_against(ON, wish))

    def test_no_tuples_with_a_word(self):
        others = (0, 1, 10 ** 40, self.goal, "full", ["full"], [*self.wishes[0]], {"full": 1}, {"full"}, (ON,), ON, small)
        for given in (*OTHER_KINDS, *TRUTHS, *STRINGS, *TUPLES_OF_INTEGERS, *INTEGERS_BELOW, *others):
            self.assert_given(InvalidWish, given, shown_against, ON, given)

    def test_other_words(self):
        for wish in self.wishes:
            for word in ("", "Full", "full ", "Alike", "unlike", "earlier", "beyond", "stretched", "missed", "doubled", "on", "x", *NO_NUMBERS):
                given = (word, *wish[1:])
                self.assert_given(InvalidWish, given, shown_against, ON, given)

    def test_words_of_the_others(self):
        for wish in self.wishes:
            for word in ("alike", "later", "within", "stretch", "full", "single"):
                given = (word, *wish[1:])
                if {word, wish[0]} not in ({"alike", "later"}, {"full", "single"}) and word != wish[0]:
                    self.assert_given(InvalidWish, given, shown_against, ON, given)

    def test_too_few_or_too_many_elements(self):
        for wish in self.wishes:
            for given in ((*wish, 0), (*wish, None), (*wish, self.goal), wish[:-1], (wish,), (*wish, *wish)):
                self.assert_given(InvalidWish, given, shown_against, ON, given)

    def test_no_texts(self):
        for wrong in NO_TEXTS:
            self.raised(InvalidText, Move.read, wrong)
            for wish in self.wishes[:3]:
                given = (wish[0], wrong, *wish[2:])
                self.assert_given(InvalidWish, given, shown_against, ON, given)

    def test_other_values_in_the_place_of_a_text(self):
        for wrong in (*NO_NUMBERS, 0, 1, FAR, self.goal.encode(), [self.goal], (self.goal,), SMALL):
            for wish in self.wishes[:3]:
                given = (wish[0], wrong, *wish[2:])
                self.assert_given(InvalidWish, given, shown_against, ON, given)

    def test_bounds_that_are_no_integers(self):
        for wrong in NO_INTEGERS:
            for wish in self.wishes[2:4]:
                for given in ((*wish[:2], wrong, wish[3]), (*wish[:3], wrong)):
                    self.assert_given(InvalidWish, given, shown_against, ON, given)

    def test_stretched_by_no_number(self):
        for wrong in NO_NUMBERS:
            given = ("stretch", wrong, 0, 9)
            self.assert_given(InvalidWish, given, shown_against, ON, given)
        for many in (0, 1, 10 ** 40):
            shown_against(ON, ("stretch", many, 0, 9))


class Errors(Raising):
    long, three = move(("rate", 1, 100), ("rate", 1, 100)), text(("rate", 1, 3))

    def test_no_moves(self):
        for given in (*NO_NUMBERS[:-len(INTEGERS_BELOW) - 1], *INTEGERS_BELOW, 0, 1, str(ON), [ON], (ON,), Move, House):
            self.assert_given(NotAMove, given, shown_against, given, ("full",))

    def test_move_ahead_of_wish_ahead_of_too_long(self):
        wrong, wish = object(), ("within", self.three, 0, None)
        self.assert_given(NotAMove, wrong, shown_against, wrong, wrong)
        self.assert_given(NotAMove, wrong, shown_against, wrong, ("alike", self.three))
        self.assert_given(InvalidWish, wish, shown_against, self.long, wish)

    def test_too_long_together(self):
        for wish in (("alike", self.three), ("later", self.three), ("within", self.three, 0, 1)):
            self.assert_too_long(shown_against, self.long, wish)
            self.assert_too_long(shown_against, Move.read(self.three), (wish[0], str(self.long), *wish[2:]))
        # One of them alone can always be asked.
        for wish in (("stretch", FAR, 0, 1), ("full",), ("single",), ("alike", str(self.long)), ("alike", text(("rate", 1, 2)))):
            shown_against(self.long, wish)

    def test_by_position_and_by_name(self):
        wish = ("stretch", 5, 4, 4)
        self.assertEqual(shown_against(wish=wish, move=ON), shown_against(ON, wish))
        self.assertEqual(shown_against(ON, wish=wish), 0)

    def test_nothing_changes(self):
        wishes = (("within", str(ON), 0, 0), ("stretch", 5, 4, 4), ("alike", self.three))
        told = [[shown_against(ON, wish) for wish in wishes] for _ in range(2)]
        self.assertEqual(told[0], told[1])
        self.assertEqual(wishes, (("within", str(ON), 0, 0), ("stretch", 5, 4, 4), ("alike", self.three)))
        self.assertEqual(ON, move(("on", 2)))

    def test_words_are_not_compared_with_other_values(self):
        given = (Agreeing(), str(ON))
        self.assert_given(InvalidWish, given, shown_against, ON, given)


if __name__ == "__main__":
    unittest.main()
