"""The console: [9] to [12], and the lines of the interface."""

import unittest
from random import Random

from plain_houses import DROP
from plain_moves import FAR, PLAIN, SMALL, random_move, random_step
from raising import Raising
from test_rooms import outcome
from test_shown import NO_NUMBERS, move
from wrong_values import INTEGERS_BELOW, OTHER_KINDS, STRINGS, TRUTHS, TUPLES_OF_INTEGERS, Agreeing, Refusing

from labelmoves.console import Console
from labelmoves.errors import InvalidText, NotAMove
from labelmoves.houses import House
from labelmoves.lengths import first_doubled, first_missed, stretch
from labelmoves.moves import Move
from labelmoves.rooms import Room

small, plain, drop = House(*SMALL), House(*PLAIN), House(*DROP)
OVER = Move((small, plain), (("read", 1, "next"),))
QUESTIONS = ("first", "missed", "doubled", "round", "move", "value 0", "value 7", "label 0", "label 7", "stretch 0", "stretch 4")
RIGHT = (
    *QUESTIONS, "undo", "wish full", "wish single", "add on 1", "add back 0", "add label 2 next", "add unlabel 2 last", "add to 0",
    "add after 1", "add read 0 next", "add call 0", "add rate 3 2", "put 0 on 1", "put 0 rate 1 1", "put 1 label 5 last", "value 10", "put 10 on 10",
)


def state(console):
    """All that the console tells of its move."""
    return [console.say(line) for line in QUESTIONS]


def or_none(number):
    return "none" if number is None else str(number)


def answered(room, line):
    """The answer to a line, from the room that it stands for."""
    word, *rest = line.split(" ")
    if word in ("put", "add", "wish", "undo"):
        numbers = [int(part) if part.isdigit() else part for part in rest]
        values = {"put": lambda: (numbers[0], tuple(numbers[1:])), "undo": lambda: ()}.get(word, lambda: (tuple(numbers),))()
        told = outcome(getattr(room, word), *values)
        return "ok" if told is None else told[0].__name__
    at = room.move
    if word == "value":
        return "lost" if at.of(int(rest[0])) is None else str(at.of(int(rest[0])))
    if word == "label":
        return at.houses[0].written(int(rest[0]))
    if word == "stretch":
        return "{} {}".format(*stretch(at, int(rest[0])))
    told = {
        "first": str(at.first), "missed": or_none(first_missed(at)), "doubled": or_none(first_doubled(at)), "round": "{} {}".format(*at.round),
        "move": " / ".join(str(at).split("\nmove")[1].split("\n")[1:]) or "-",
    }
    return told[word]


def random_line(random, houses):
    """A line of each kind, whose step is sometimes none where it would stand."""
    word = random.choice("put put put add add undo wish wish value label stretch first missed doubled round move".split())
    step = random_step(random, houses, random.randrange(len(houses)), 9)
    if random.random() < 0.15:
        step = random.choice((("to", 3), ("call", 3), ("rate", 0, 1), ("rate", 1, 101), ("on", 10 ** 40 + 1)))
    elif random.random() < 0.15:
        step = "rate", 1, random.choice((83, 89, 97))
    if word == "put":
        return " ".join(map(str, (word, random.randrange(4), *step)))
    if word == "add":
        return " ".join(map(str, (word, *step)))
    if word == "wish":
        return random.choice(("wish full", "wish single"))
    if word in ("value", "label", "stretch"):
        return f"{word} {random.choice((0, 1, 5, 33, FAR))}"
    return word


class OneByOne(unittest.TestCase):
    def test_as_the_room_answers(self):
        random, names = Random("console"), {}
        for _ in range(120):
            houses, steps = random_move(random, most=3)
            start = Move(tuple(House(*house) for house in houses), steps)
            console, room = Console(start), Room(start)
            for _ in range(30):
                line = random_line(random, houses)
                answer = console.say(line)
                self.assertEqual(answer, answered(room, line), line)
                self.assertIs(type(answer), str)
                names[answer] = names.get(answer, 0) + 1
        for name in ("ok", "lost", "none", "InvalidNumber", "InvalidStep", "NothingToUndo", "TooLong", "Broken"):
            self.assertGreater(names[name], 10, name)


class Lines(Raising):
    def test_value(self):
        console = Console(move(("back", 3), ("rate", 2, 1)))
        for line, answer in (("value 0", "lost"), ("value 2", "lost"), ("value 3", "0"), ("value 10", "14"), (f"value {FAR}", str(2 * FAR - 6))):
            self.assertEqual(console.say(line), answer)
        self.assertEqual(console.say(f"value {10 ** 59}"), str(2 * 10 ** 59 - 6))

    def test_label_in_the_first_house(self):
        self.assertEqual([Console(OVER).say(f"label {frame}") for frame in (0, 5)], ["0:0:1", "1:0:1"])
        console = Console(Move((drop, plain), (("on", 5), ("call", 1))))
        self.assertEqual([console.say(f"label {frame}") for frame in (0, 1799, 1800)], ["0:00:00:00", "0:00:59:29", "0:01:00:02"])
        self.assertEqual(console.say(f"label {6 * 17982 * 10 ** 40}"), f"1{'0' * 40}:00:00:00")

    def test_stretch(self):
        console = Console(OVER)
        for line, answer in (("stretch 0", "0 0"), ("stretch 4", "4 5"), (f"stretch {5 * FAR}", f"{6 * FAR} {6 * FAR}")):
            self.assertEqual(console.say(line), answer)

    def test_first_missed_and_doubled(self):
        for console, answers in (
            (Console(OVER), ["0", "6", "none"]), (Console(move(("back", 10 ** 40), ("rate", 1, 3))), [str(10 ** 40), "none", str(10 ** 40)]),
            (Console(move()), ["0", "none", "none"]), (Console(move(("on", FAR), ("rate", 3, 2))), ["0", str(FAR * 3 // 2 + 1), "none"]),
        ):
            self.assertEqual([console.say(line) for line in ("first", "missed", "doubled")], answers)

    def test_round(self):
        for asked, answer in ((OVER, "5 6"), (move(), "1 1"), (move(*[("rate", 100, 1)] * 8), f"1 {10 ** 16}")):
            self.assertEqual(Console(asked).say("round"), answer)

    def test_move(self):
        self.assertEqual(Console(move()).say("move"), "-")
        self.assertEqual(Console(OVER).say("move"), "read 1 next")
        steps = (("on", 10 ** 40), ("back", 0), ("label", 6, "next"), ("unlabel", 6, "last"), ("to", 0), ("after", 1), ("call", 0), ("rate", 3, 2))
        lines = f"on {10 ** 40} / back 0 / label 6 next / unlabel 6 last / to 0 / after 1 / call 0 / rate 3 2"
        self.assertEqual(Console(move(*steps)).say("move"), lines)
        console = Console(move())
        for line in lines.split(" / "):
            self.assertEqual(console.say(f"add {line}"), "ok")
        self.assertEqual(console.say("move"), lines)
        self.assertEqual(console.say("add on 1"), "InvalidStep")

    def test_put_add_and_undo(self):
        console = Console(move(("on", 2)))
        for line, answer, after in (
            ("undo", "NothingToUndo", "on 2"), ("add rate 1 2", "ok", "on 2 / rate 1 2"), ("put 0 back 3", "ok", "back 3 / rate 1 2"),
            ("put 2 on 1", "InvalidNumber", "back 3 / rate 1 2"), (f"put {FAR} on 1", "InvalidNumber", "back 3 / rate 1 2"),
            ("put 1 rate 1 1", "ok", "back 3 / rate 1 1"), ("undo", "ok", "back 3 / rate 1 2"), ("undo", "ok", "on 2 / rate 1 2"),
            ("put 1 rate 1 2", "ok", "on 2 / rate 1 2"), ("undo", "ok", "on 2 / rate 1 2"), ("undo", "ok", "on 2"), ("undo", "NothingToUndo", "on 2"),
        ):
            self.assertEqual((console.say(line), console.say("move")), (answer, after), line)

    def test_wishes(self):
        console = Console(move(("on", 2)))
        for line, answer in (
            ("wish single", "ok"), ("add rate 1 2", "Broken"), ("add rate 2 1", "ok"), ("wish full", "Broken"), ("undo", "ok"), ("wish full", "ok"),
            ("add rate 2 1", "Broken"), ("undo", "ok"), ("add rate 2 1", "ok"), ("undo", "ok"), ("undo", "ok"), ("wish single", "ok"), ("undo", "ok"),
            ("undo", "NothingToUndo"),
        ):
            self.assertEqual(console.say(line), answer, line)

    def test_steps_that_are_none_there(self):
        console = Console(move(("on", 2)))
        for step in (
            "to 2", "after 2", "call 1", "read 1 next", "rate 0 1", "rate 1 0", "rate 101 1", "rate 1 101", f"on {10 ** 40 + 1}", f"back {10 ** 59}",
            f"label {10 ** 41} next", f"unlabel {10 ** 41} last", f"to {FAR}", f"call {FAR}", f"read {FAR} last", f"rate {FAR} {FAR}",
        ):
            self.assertEqual(console.say(f"add {step}"), "InvalidStep", step)
            self.assertEqual(console.say(f"put 0 {step}"), "InvalidStep", step)
            self.assertEqual(console.say(f"put 1 {step}"), "InvalidNumber", step)
        self.assertEqual(console.say("move"), "on 2")

    def test_steps_that_take_too_long(self):
        console = Console(move(("rate", 1, 100), ("rate", 1, 100)))
        for line, answer in (
            ("add rate 1 3", "TooLong"), ("put 0 rate 1 99", "ok"), ("add rate 1 2", "ok"), ("add rate 1 3", "TooLong"), ("put 1 rate 1 1", "ok"),
            ("add rate 1 100", "ok"), ("put 1 rate 1 2", "TooLong"),
        ):
            self.assertEqual(console.say(line), answer, line)

    def test_numbers_of_forty_figures(self):
        console = Console(move())
        self.assertEqual(console.say(f"add back {10 ** 40}"), "ok")
        self.assertEqual(console.say(f"put 0 unlabel {10 ** 40} last"), "ok")
        # Six labels to five frames, of which the first one is skipped; below place 1 there is no last frame.
        self.assertEqual(console.say("first"), str(small.at(10 ** 40 + 1, "next")))
        self.assertEqual(console.say(f"value {5 * 10 ** 40}"), str(small.at(6 * 10 ** 40 + 1 - 10 ** 40, "last")))

    def test_answers_of_any_size_may_be_said_again(self):
        console = Console(move(*[("rate", 100, 1)] * 8))
        number = "1"
        for times in range(1, 301):
            number = console.say(f"value {number}")
        self.assertEqual(number, "1" + "0" * 4800)
        self.assertEqual(console.say(f"stretch {number}"), f"{number}{'0' * 16} {number}{'0' * 16}")
        self.assertEqual(len(console.say(f"label {number}")), 4800 + 4)
        self.assertEqual(console.say(f"put {number} on 1"), "InvalidNumber")
        self.assertEqual(console.say(f"put 0 on {number}"), "InvalidStep")


class NoLines(Raising):
    start = Move((small, plain), (("read", 1, "next"), ("on", 2)))

    def assert_none(self, *lines):
        console = Console(self.start)
        console.say("add on 1")
        before = state(console)
        for line in lines:
            self.assert_given(InvalidText, line, console.say, line)
        self.assertEqual(state(console), before)
        self.assertEqual([console.say("undo"), console.say("undo")], ["ok", "NothingToUndo"])

    def test_right_ones(self):
        for line in RIGHT:
            self.assertIs(type(Console(self.start).say(line)), str)

    def test_other_kinds_of_values(self):
        self.assert_none(*OTHER_KINDS, *TRUTHS, *TUPLES_OF_INTEGERS, *INTEGERS_BELOW, small, 0, 1, b"first", ["first"], ("first",), ("value", 3), ["value 3"], {"first": 1}, self.start, Console)

    def test_blanks_and_newlines(self):
        for line in RIGHT:
            self.assert_none(line + " ", " " + line, line + "\n", "\n" + line, line.replace(" ", "  ", 1) + " " * (" " not in line))
            if " " in line:
                self.assert_none(line.replace(" ", "\n", 1), line.replace(" ", "", 1), line[::-1].replace(" ", "  ", 1)[::-1], line[::-1].replace(" ", "\n", 1)[::-1])

    def test_missing_and_further_words(self):
        for line in RIGHT:
            self.assert_none(*[f"{line} {word}" for word in ("0", "1", "next", "full", "x", "first", "move")])
            if " " in line:
                self.assert_none(line.rpartition(" ")[0], line.partition(" ")[2])
        self.assert_none(*[line for line in STRINGS if line != "first"], "", " ", "\n", "put", "add", "wish", "value", "label", "stretch", "put 0", "put on 1", "put 0 0 on 1", "add 0 on 1")

    def test_other_words(self):
        for line in RIGHT:
            word, _, rest = line.partition(" ")
            self.assert_none(*[f"{other} {rest}".strip(" ") for other in (word.title(), word.upper(), word + "s", word[:-1], "lift", "x")])
        self.assert_none(
            "wish alike", "wish later", "wish within", "wish stretch 1 1 1", "wish 0", "wish full single", "add next", "add step", "add go 1", "lift 0",
            "add On 1", "add on one", "add label 1 first", "add label 1 Next", "add label next 1", "add label next", "add label 1", "add read 1", "add to",
            "add to next", "add call", "add rate 1", "add rate 1 2 3", "add rate 1 next", "add on 1 next", "add on next", "add label 1 2", "put next on 1",
            "undo 1", "first 0", "round 0", "move 0", "missed 0", "doubled 0", "value 0 1", "label 0:0:1", "value first", "house 2 3", "add", "move -",
        )

    def test_numbers_otherwise(self):
        for line in RIGHT:
            words = line.split(" ")
            for at, word in enumerate(words):
                if word.isdigit():
                    for other in ("0" + word, "00" + word, "+" + word, "-" + word, word + ".0", word + "_0", f"{word}e1", "0x1", "one", "", word + ",0", "~"):
                        self.assert_none(" ".join([*words[:at], other, *words[at + 1:]]))

    def test_no_move(self):
        for given in (*NO_NUMBERS[:-1], 0, 1, str(self.start), [self.start], Move, small, Room(self.start), Console(self.start)):
            if not isinstance(given, Move):
                self.assert_given(NotAMove, given, Console, given)

    def test_by_position_and_by_name(self):
        console = Console(move=self.start)
        self.assertEqual(console.say(line="value 3"), console.say("value 3"))
        self.assert_given(InvalidText, "x", console.say, line="x")


class Alone(Raising):
    def test_questions_change_nothing(self):
        console = Console(OVER)
        console.say("add on 1")
        before = state(console)
        for line in QUESTIONS * 3:
            console.say(line)
            self.assertEqual(state(console), before)
        self.assertEqual([console.say("undo"), console.say("undo")], ["ok", "NothingToUndo"])

    def test_errors_change_nothing(self):
        console = Console(move(("rate", 1, 100), ("rate", 1, 100)))
        console.say("wish full")
        before = state(console)
        for line, answer in (("add rate 1 3", "TooLong"), ("add rate 100 1", "Broken"), ("put 2 on 1", "InvalidNumber"), ("add to 2", "InvalidStep"), ("wish single", "Broken")):
            self.assertEqual(console.say(line), answer)
            self.assertEqual(state(console), before)
        self.assertEqual([console.say("undo"), console.say("undo")], ["ok", "NothingToUndo"])

    def test_consoles_leave_all_others_as_they_are(self):
        start = move(("on", 2))
        one, other = Console(start), Console(start)
        one.say("put 0 on 3")
        one.say("wish single")
        self.assertEqual((one.say("move"), other.say("move"), start), ("on 3", "on 2", move(("on", 2))))
        self.assertEqual(other.say("add rate 1 2"), "ok")

    def test_equal_to_itself_alone_and_true(self):
        one, other = Console(move()), Console(move())
        self.assertIs(one == one, True)
        self.assertIs(one != one, False)
        self.assertIs(bool(one), True)
        for value in (other, *NO_NUMBERS, move(), 0, 1, Console, Room(move())):
            if not isinstance(value, (Agreeing, Refusing)):
                self.assertIs(one == value, False)
                self.assertIs(value == one, False)
                self.assertIs(one != value, True)

    def test_the_same_again_is_equal(self):
        told = []
        for _ in range(2):
            console = Console(OVER)
            told.append([console.say(line) for line in RIGHT])
        self.assertEqual(told[0], told[1])


if __name__ == "__main__":
    unittest.main()
