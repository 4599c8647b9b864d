"""What is a step, at each place of its words and numbers: [3], [5], [10]."""

from plain_moves import PLAIN, SMALL
from raising import Raising
from wrong_values import INTEGERS_BELOW, OTHER_KINDS, STRINGS, TRUTHS, TUPLES_OF_INTEGERS

from labelmoves.errors import InvalidStep, InvalidSteps
from labelmoves.houses import House
from labelmoves.moves import Move

GREATEST = 10 ** 40
WORDS = ("on", "back", "label", "unlabel", "to", "after", "read", "call", "rate")

flat, small, plain, deep = House((3,)), House(*SMALL), House(*PLAIN), House((2, 2, 3), ((2, 1, 1),))
ALL = (flat, small, deep)

# One step of each kind, in a house with two bases, and of which kind each of its parts is.
GOOD = (
    (("on", 2), ("amount",)),
    (("back", 2), ("amount",)),
    (("label", 2, "next"), ("amount", "way")),
    (("unlabel", 2, "last"), ("amount", "way")),
    (("to", 1), ("field",)),
    (("after", 1), ("field",)),
    (("read", 1, "next"), ("house", "way")),
    (("call", 1), ("house",)),
    (("rate", 3, 2), ("rate", "rate")),
)
RIGHT = {
    "amount": (0, 1, 2, GREATEST - 1, GREATEST), "way": ("next", "last"), "field": (0, 1), "house": (0, 1), "rate": (1, 2, 99, 100),
}
JUST_NOT = {
    "amount": (-1, GREATEST + 1, 10 ** 60), "way": ("", "nex", "Next", "nextlast", b"next"), "field": (-1, 2, 3, 10 ** 40),
    "house": (-1, 2, 3, 10 ** 40), "rate": (0, -1, 101, 10 ** 40),
}


def exchanged(step, at, part):
    return step[:at] + (part,) + step[at + 1:]


class Steps(Raising):
    def assert_step(self, houses, step, ahead=()):
        """It is one behind the steps ahead, alone, as another step, and as one more."""
        self.assertEqual(Move(houses, ahead + (step,)).steps, ahead + (step,))
        self.assertEqual(Move(houses, ahead).then(step).steps, ahead + (step,))
        self.assertEqual(Move(houses, ahead + (("on", 1),)).with_step(len(ahead), step).steps, ahead + (step,))

    def assert_no_step(self, houses, step, ahead=()):
        self.assert_index(InvalidSteps, len(ahead), Move, houses, ahead + (step,))
        self.assert_index(InvalidSteps, len(ahead), Move, houses, ahead + (step, ("on", 1)))
        self.assert_given(InvalidStep, step, Move(houses, ahead).then, step)
        self.assert_given(InvalidStep, step, Move(houses, ahead + (("on", 1),)).with_step, len(ahead), step)

    def test_each_part_right_and_just_not(self):
        for good, kinds in GOOD:
            for at, kind in enumerate(kinds, start=1):
                for part in RIGHT[kind]:
                    self.assert_step((small, plain), exchanged(good, at, part))
                    self.assert_step((small, plain), exchanged(good, at, part), (("on", 3), ("call", 1)))
                for part in JUST_NOT[kind]:
                    self.assert_no_step((small, plain), exchanged(good, at, part))
                    self.assert_no_step((small, plain), exchanged(good, at, part), (("on", 3), ("call", 1)))

    def test_parts_of_each_kind(self):
        for good, kinds in GOOD:
            for at, kind in enumerate(kinds, start=1):
                others = (*OTHER_KINDS, *TRUTHS, *STRINGS, *TUPLES_OF_INTEGERS, *INTEGERS_BELOW, small, [good[at]], (good[at],))
                for part in others + ((1, 2) if kind == "way" else ("next", str(good[at]))):
                    self.assert_index(InvalidSteps, 0, Move, (small, plain), (exchanged(good, at, part),))

    def test_words_of_each_kind(self):
        others = ("On", "ON", "on ", " on", "onn", "o", "", "move", "house", "label next", "backward", b"on", "ton", "tot", "laber")
        for good, _ in GOOD:
            for word in (*OTHER_KINDS, *TRUTHS, *TUPLES_OF_INTEGERS, *INTEGERS_BELOW, *others, 0, 1, ("on",), ["on"], {"on": 1}):
                self.assert_index(InvalidSteps, 0, Move, (small, plain), (exchanged(good, 0, word),))

    def test_words_with_the_parts_of_others(self):
        kinds = dict((good[0], kinds) for good, kinds in GOOD)
        for good, own in GOOD:
            for word in WORDS:
                if len(kinds[word]) != len(own) or ("way" in kinds[word]) != ("way" in own):
                    self.assert_no_step((small, plain), exchanged(good, 0, word))
        self.assert_no_step((small, plain), ("on", 2, "next"))
        self.assert_no_step((small, plain), ("label", 2))
        self.assert_no_step((small, plain), ("label", "next", 2))
        self.assert_no_step((small, plain), ("read", "next", 1))
        self.assert_no_step((small, plain), ("to", 1, 1))
        self.assert_no_step((small, plain), ("call", 1, "next"))
        self.assert_no_step((small, plain), ("rate", 3))
        self.assert_no_step((small, plain), ("rate", 3, "next"))

    def test_too_few_or_too_many_parts(self):
        for good, _ in GOOD:
            for step in ((), good[:1], good[:-1], good + (1,), good + ("next",), good + good[1:], (good,), good + ((),)):
                self.assert_no_step((small, plain), step)

    def test_no_tuples(self):
        for good, _ in GOOD:
            for step in (list(good), dict(enumerate(good)), " ".join(map(str, good)), set(good), good[0]):
                self.assert_no_step((small, plain), step)
        for step in (*OTHER_KINDS, *TRUTHS, *STRINGS, *TUPLES_OF_INTEGERS, *INTEGERS_BELOW, 0, 5, small, Move((small,))):
            self.assert_no_step((small, plain), step)

    def test_fields_are_those_of_the_house_that_it_is_in(self):
        for number, fields in ((0, 1), (1, 2), (2, 3)):
            ahead = (("call", number),)
            for word in ("to", "after"):
                for field in range(5):
                    if field < fields:
                        self.assert_step(ALL, (word, field), ahead)
                        self.assert_step(ALL, (word, field), (("call", 2), ("on", 3), ("call", number), ("back", 1)))
                    else:
                        self.assert_no_step(ALL, (word, field), ahead)
                        self.assert_no_step(ALL, (word, field), (("call", 2), ("on", 3), ("call", number), ("back", 1)))

    def test_fields_behind_a_reading(self):
        houses = (flat, House((2, 3)), House((2, 3), ((1, 1, 2),)))
        self.assert_step(houses, ("to", 1), (("call", 1), ("read", 2, "next")))
        self.assert_no_step(houses, ("to", 2), (("call", 1), ("read", 2, "next")))
        self.assert_no_step(houses, ("to", 1), (("read", 0, "next"),))

    def test_numbers_of_houses(self):
        for many in (1, 2, 3):
            houses = (small, plain, small)[:many]
            for number in range(5):
                for step in (("call", number), ("read", number, "last")):
                    if number < many:
                        self.assert_step(houses, step)
                    else:
                        self.assert_no_step(houses, step)

    def test_readings_between_unlike_bases(self):
        houses = (small, House((3, 2)), plain)
        for way in ("next", "last"):
            self.assert_step(houses, ("read", 0, way))
            self.assert_step(houses, ("read", 2, way))
            self.assert_no_step(houses, ("read", 1, way))
            for number in (0, 2):
                self.assert_no_step(houses, ("read", number, way), (("call", 1),))
                self.assert_step(houses, ("read", number, way), (("call", 1), ("on", 2), ("call", 2)))
            self.assert_step(houses, ("read", 1, way), (("call", 1),))
        for there in ((2,), (3,), (2, 4), (3, 3), (2, 3, 2), (2, 2, 3), (6,)):
            self.assert_no_step((plain, House(there)), ("read", 1, "next"))
            self.assert_step((plain, House(there)), ("call", 1))

    def test_numbers_of_parts_are_not_mixed_up(self):
        # A house with more fields than there are houses, and the other way round.
        self.assert_step((deep,), ("to", 2))
        self.assert_no_step((deep,), ("call", 2))
        self.assert_no_step((deep,), ("read", 1, "next"))
        self.assert_step((flat, flat, flat), ("call", 2))
        self.assert_no_step((flat, flat, flat), ("to", 1))
