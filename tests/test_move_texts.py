"""The texts of moves: [12], `Move.read`."""

from plain_houses import DROP
from plain_moves import PLAIN, SMALL, made, plain_text, random_moves
from raising import Raising
from wrong_values import INTEGERS_BELOW, OTHER_KINDS, STRINGS, TRUTHS, TUPLES_OF_INTEGERS

from labelmoves.errors import InvalidText
from labelmoves.houses import House
from labelmoves.moves import Move

small, plain = House(*SMALL), House(*PLAIN)

SMALL_TEXT, PLAIN_TEXT = "house 2 3\nskip 0 1 1", "house 2 3"
DROP_TEXT = "house 60 60 30\nskip 1 1 2\nskip 1 10 0"


class Texts(Raising):
    def test_lines(self):
        self.assertEqual(str(Move((plain,))), "house 2 3\nmove")
        self.assertEqual(str(Move((small, plain), (("read", 1, "next"),))), f"{SMALL_TEXT}\n{PLAIN_TEXT}\nmove\nread 1 next")
        self.assertEqual(str(Move((plain, House(*DROP), plain), ())), f"{PLAIN_TEXT}\n{DROP_TEXT}\n{PLAIN_TEXT}\nmove")
        steps = (
            ("on", 0), ("back", 10 ** 40), ("label", 10 ** 40, "next"), ("unlabel", 7, "last"), ("to", 0), ("after", 1),
            ("call", 1), ("rate", 100, 100),
        )
        lines = ["on 0", f"back 1{'0' * 40}", f"label 1{'0' * 40} next", "unlabel 7 last", "to 0", "after 1", "call 1", "rate 100 100"]
        self.assertEqual(str(Move((small, plain), steps)), "\n".join([SMALL_TEXT, PLAIN_TEXT, "move", *lines]))
        self.assertEqual(Move.read("\n".join([SMALL_TEXT, PLAIN_TEXT, "move", *lines])).steps, steps)

    def test_read_again(self):
        for houses, steps in random_moves("texts", 200):
            text = plain_text(houses, steps)
            move = Move.read(text)
            self.assertIs(type(move), Move)
            self.assertEqual(tuple((house.bases, house.rows) for house in move.houses), houses)
            self.assertEqual(move.steps, steps)
            self.assertIs(type(move.houses), tuple)
            self.assertEqual(str(move), text)
            self.assertEqual(str(made(houses, steps)), text)
            self.assertTrue(move == made(houses, steps))
            self.assertEqual((move.first, move.round, move.of(40)), (made(houses, steps).first, made(houses, steps).round, made(houses, steps).of(40)))

    def test_no_strings(self):
        others = (0, 5, Move((small,)), [str(Move((small,)))], (str(Move((small,))),), str(Move((small,))).encode())
        for given in (*OTHER_KINDS, *TRUTHS, *TUPLES_OF_INTEGERS, *INTEGERS_BELOW, *others):
            self.assert_given(InvalidText, given, Move.read, given)

    def assert_none(self, *texts):
        for given in texts:
            self.assert_given(InvalidText, given, Move.read, given)

    def test_other_forms(self):
        text = "house 2 3\nskip 0 1 1\nmove\non 2\nlabel 3 next"
        self.assertEqual(str(Move.read(text)), text)
        self.assert_none(
            *STRINGS, "move", "\nmove", "move\nhouse 2 3", "house 2 3", "house 2 3\n", "house 2 3\non 2", "house 2 3\nmove\n",
            "\nhouse 2 3\nmove", "house 2 3\n\nmove", "house 2 3\nmove\n\non 2", "house 2 3\nmove\non 2\n", "house 2 3\nmove \non 2",
            "house 2 3\n move\non 2", "house 2 3\nMove\non 2", "house 2 3\nmove on 2", "house 2 3 move\non 2", "house 2 3\nmove\nmove\non 2",
            "house 2 3\nmove\non 2\nmove", "house 2 3\nmoves\non 2", "house 2 3\nmove\nhouse 2 3", "house 2 3\nmove\non 2\nhouse 2 3",
            "house 2 3\nmove\nskip 0 1 1", "skip 0 1 1\nhouse 2 3\nmove", "skip 0 1 1\nmove", "on 2\nhouse 2 3\nmove",
            "house 2 3 house 2 3\nmove", "house 2 3\nskip 0 1 1 skip 0 1 1\nmove", "house2 3\nmove", "house  2 3\nmove",
            "house 2 3\nhouse\nmove", "house 2 3\nhouses 2 3\nmove", "house 2 3\r\nmove", "house 2 3\tmove",
        )

    def test_other_forms_of_steps(self):
        for step in ("on 2", "back 2", "label 2 next", "unlabel 2 last", "to 1", "after 1", "read 0 next", "call 0", "rate 3 2"):
            head = "house 2 3\nmove\n"
            self.assertEqual(str(Move.read(head + step)), head + step)
            word, number, *others = step.split(" ")
            rest = "".join([" " + other for other in others])
            self.assert_none(
                f"{head} {step}", f"{head}{step} ", f"{head}{word}  {number}{rest}", f"{head}{word}\n{number}{rest}", f"{head}{word}",
                f"{head}{word} ", f"{head}{word}{number}{rest}", f"{head}{word} 0{number}{rest}", f"{head}{word} +{number}{rest}",
                f"{head}{word} -{number}{rest}", f"{head}{word} -0{rest}", f"{head}{word} {number}.0{rest}", f"{head}{word} x{rest}",
                f"{head}{word} next{rest}", f"{head}{word} {number}{rest} {number}", f"{head}{word} {number}{rest} next",
                f"{head}{word.upper()} {number}{rest}", f"{head}{word}, {number}{rest}", f"{head}('{word}', {number})",
                f"{head}{number} {word}{rest}", f"{head}{word} {number}{rest}#", f"{head}{word} 1_0{rest}", f"{head}{word} 00{rest}",
                f"{head}{word} {number}{rest}\n{step} ", f"{head}{word} \u0662{rest}", f"{head}{word} True{rest}", f"{head}{word} None{rest}",
            )

    def test_other_ways(self):
        for line in ("label 2 first", "label 2 Next", "label 2 0", "label 2", "label 2 next last", "read 0 back", "read 0 1", "read 0"):
            self.assert_none(f"house 2 3\nmove\n{line}")

    def test_moves_that_cannot_be_made(self):
        house = "house 2 3\n"
        self.assertEqual(len(Move.read(house * 3 + "move" + "\non 2" * 8)), 8)
        self.assert_none(
            house * 4 + "move", house * 1000 + "move", house + "move" + "\non 2" * 9, house + "move" + "\non 2" * 3000,
            "house 2 61\nmove", "house 1 3\nmove", "house 2 3\nskip 2 1 1\nmove", "house 2 3\nskip 0 1 3\nmove", "house 2 2 2 2\nmove",
            "house 2 3" + "\nskip 0 1 1" * 7 + "\nmove", f"{house}move\non 1{'0' * 39}1", f"{house}move\non {10 ** 40 + 1}",
            f"{house}move\non {'9' * 10000}", f"{house}move\nto 2", f"{house}move\nafter 2", f"{house}move\ncall 1",
            f"{house}move\nread 1 next", f"{house}move\nrate 0 1", f"{house}move\nrate 1 0", f"{house}move\nrate 101 1",
            f"{house}move\nrate 1 101", f"{house}house 3 3\nmove\nread 1 next", f"house 3\n{house}move\nto 1",
        )
        self.assertEqual(Move.read(f"house 3\n{house}move\ncall 1\nto 1").end, plain)
        self.assertEqual(Move.read(f"{house}move\non {10 ** 40}").of(0), 10 ** 40)

    def test_moves_and_houses_that_are_too_long(self):
        self.assertEqual(Move.read("house 60 60 30\nskip 0 2 1\nmove").round, (1, 1))
        self.assertEqual(Move.read("house 2 3\nmove\nrate 1 100\nrate 1 100\nrate 1 2").round, (20000, 1))
        self.assert_none(
            "house 60 60 30\nskip 0 3 1\nmove", "house 60 60 30\nskip 0 3 0\nmove", "house 2 3\nhouse 60 60 30\nskip 0 3 1\nmove",
            "house 2 3\nmove\nrate 1 100\nrate 1 100\nrate 1 3", "house 60 60 30\nskip 0 2 1\nmove\nlabel 0 next",
            f"{DROP_TEXT}\nmove\nto 0", f"{DROP_TEXT}\nmove\nto 1\nrate 1 7",
        )
