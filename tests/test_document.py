"""The whole document once more: each point, over the whole program."""

import inspect
import unittest
from importlib import import_module
from math import gcd, lcm
from random import Random

from plain_houses import DROP, HOUSES, labels_below, is_skipped, plain_round, plain_text
from plain_moves import FAR, PLAIN, SMALL, made, plain_becoming, plain_first, plain_house, plain_through, plain_value, random_moves
from plain_pairs import Told, pairs
from raising import Raising
from test_shown import move, text
from wrong_values import INTEGERS_BELOW, OTHER_KINDS, STRINGS, TRUTHS, TUPLES_OF_INTEGERS

from labelmoves import errors
from labelmoves.certificates import certify_alike, certify_doubled, certify_missed, certify_stretch, certify_within
from labelmoves.checker import accepts
from labelmoves.clocks import drift, first_beyond, swing
from labelmoves.comparing import distances, first_at, first_earlier, first_unlike, times_at
from labelmoves.console import Console
from labelmoves.errors import Broken, InvalidText, TooLong
from labelmoves.houses import House
from labelmoves.lengths import first_doubled, first_missed, start_for, stretch, times_missed
from labelmoves.lists import Cutlist
from labelmoves.mends import mending, shown_against
from labelmoves.moves import Move
from labelmoves.rooms import Room
from labelmoves.telling import best_look, fitting, told_surely

small, plain, drop, full = House(*SMALL), House(*PLAIN), House(*DROP), House((60, 60, 30))
ON, OVER = move(("on", 2)), Move((small, plain), (("read", 1, "next"),))
PACE = (30000, 1001)
ANYTHING = (*OTHER_KINDS, *TRUTHS, *STRINGS, *TUPLES_OF_INTEGERS, *INTEGERS_BELOW, 0, 1, FAR, small, ON, Cutlist(small, 0), Room(ON))

# What the interface lists: for each module its functions, for each class its methods, with their parameters.
SIGNATURES = {
    "houses": {
        "House": "bases, rows=()", "House.read": "text", "House.label": "frame", "House.place": "frame", "House.written": "frame",
        "House.frame": "label", "House.spoken": "text", "House.at": "place, way",
    },
    "moves": {
        "Move": "houses, steps=()", "Move.read": "text", "Move.of": "frame", "Move.with_step": "index, step", "Move.then": "step",
    },
    "comparing": {
        "first_unlike": "one, other", "first_earlier": "one, other", "distances": "one, other", "first_at": "one, other, distance",
        "times_at": "one, other, distance, frame",
    },
    "lengths": {
        "stretch": "move, many", "first_missed": "move", "times_missed": "move, frame", "first_doubled": "move", "start_for": "move, frame",
    },
    "clocks": {"drift": "house, pace, frame", "swing": "house, pace", "first_beyond": "house, pace, bound"},
    "lists": {"Cutlist": "house, frame, clips=()", "Cutlist.look": "number", "Cutlist.joined": "", "Cutlist.moved": "index, move"},
    "telling": {"fitting": "menu, seen", "told_surely": "menu, seen, frame", "best_look": "menu, frame"},
    "mends": {"shown_against": "move, wish", "mending": "move, exchanges, wishes"},
    "rooms": {
        "Room": "move", "Room.put": "index, step", "Room.add": "step", "Room.wish": "wish", "Room.lift": "index", "Room.undo": "",
        "Room.trial": "", "Room.tried": "action",
    },
    "checker": {"accepts": "claim, certificate"},
    "certificates": {
        "certify_alike": "one, other", "certify_within": "one, other", "certify_stretch": "move, many", "certify_missed": "move",
        "certify_doubled": "move",
    },
    "console": {"Console": "move", "Console.say": "line"},
}

PROPERTIES = {
    House: ("bases", "rows", "round"), Move: ("houses", "steps", "end", "first", "round"), Room: ("move", "wishes", "changes"),
    Cutlist: ("house", "clips", "record_frame", "starts", "total", "joins"),
}

# For each call with parameters whose errors are told: right arguments, and the index of each such parameter.
CALLS = (
    (House, ((2, 3), ((0, 1, 1),))), (House.read, (str(small),)), (small.label, (5,)), (small.place, (5,)), (small.written, (5,)),
    (small.frame, ((0, 0, 1),)), (small.spoken, ("0:0:1",)), (small.at, (5, "next")), (Move, ((small,), (("on", 2),))), (Move.read, (str(ON),)),
    (ON.of, (5,)), (ON.with_step, (0, ("on", 1))), (ON.then, (("on", 1),)), (first_unlike, (ON, OVER)), (first_earlier, (ON, OVER)),
    (distances, (ON, OVER)), (first_at, (ON, OVER, 1)), (times_at, (ON, OVER, 1, 5)), (stretch, (ON, 5)), (first_missed, (ON,)),
    (times_missed, (ON, 5)), (first_doubled, (ON,)), (start_for, (ON, 5)), (drift, (small, (5, 2), 3)), (swing, (small, (5, 2))),
    (first_beyond, (small, (5, 2), (1, 4))), (Cutlist, (small, 0, ((small, 0, 1),))), (Cutlist(small, 0, ((small, 0, 9),)).look, (5,)),
    (Cutlist(small, 0, ((small, 0, 9),)).moved, (0, ON)), (fitting, ((small,), ((0, "0:0:1"),))), (told_surely, ((small,), ((0, "0:0:1"),), 5)),
    (best_look, ((small,), 5)), (shown_against, (ON, ("full",))), (mending, (ON, ((0, ("on", 1)),), (("full",),))), (Room, (ON,)),
    (Room(ON).put, (0, ("on", 1))), (Room(ON).add, (("on", 1),)), (Room(ON).wish, (("full",),)), (certify_alike, (ON, OVER)),
    (certify_within, (ON, OVER)), (certify_stretch, (ON, 5)), (certify_missed, (ON,)), (certify_doubled, (ON,)), (Console, (ON,)),
    (Console(ON).say, ("first",)),
)
PACKAGE_ERRORS = (errors.WrongValue, errors.WrongState, errors.NoAnswer)


def parameters(call):
    """The parameters of the call, without the object or class, as they are written."""
    signature = inspect.signature(call)
    return ", ".join(str(part) for name, part in signature.parameters.items() if name != "self")


class Interface(unittest.TestCase):
    def test_names_and_parameters(self):
        """[3]: all parameters can be passed by position or by name."""
        for module, listed in SIGNATURES.items():
            there = import_module(f"labelmoves.{module}")
            for path, written in listed.items():
                name, _, method = path.partition(".")
                call = getattr(there, name)
                self.assertEqual(call.__module__, f"labelmoves.{module}")
                if method:
                    self.assertIn(method, vars(call))
                    call = getattr(call, method)
                self.assertEqual(parameters(call), written, path)
                kinds = [part.kind for part in inspect.signature(call).parameters.values()]
                self.assertEqual(kinds, [inspect.Parameter.POSITIONAL_OR_KEYWORD] * len(kinds))

    def test_properties_and_methods_stand_in_the_classes_themselves(self):
        for owner, names in PROPERTIES.items():
            for name in names:
                self.assertIsInstance(vars(owner)[name], property)
        for owner, names in ((House, "__str__ __repr__ __eq__"), (Move, "__len__ __str__ __repr__ __eq__"), (Cutlist, "__repr__ __eq__")):
            for name in names.split():
                self.assertIn(name, vars(owner))


class Guarantees(Raising):
    """[2]"""

    def test_labels(self):
        for bases, rows in HOUSES:
            house = House(bases, rows)
            borne = [label for label in labels_below(bases, 2 + 60 // len(labels_below(bases, 1))) if not is_skipped(rows, label)]
            self.assertEqual([house.label(frame) for frame in range(len(borne))], borne)
            self.assertEqual([house.frame(label) for label in borne], list(range(len(borne))))

    def test_compared(self):
        for one, other in pairs("guarantees", 60, longest=60):
            told, left, right = Told(one, other, rounds=2), made(*one), made(*other)
            low, high = distances(left, right)
            for bound, reached in ((low, min(told.apart[:told.many])), (high, max(told.apart[:told.many]))):
                if bound is not None:
                    self.assertEqual(bound, reached)
                    frame = first_at(left, right, bound)
                    self.assertEqual(left.of(frame) - right.of(frame), bound)
                    self.assertEqual(times_at(left, right, bound, frame + 1), 1)
            frame = first_unlike(left, right)
            for at, (value, beside) in enumerate(told.values[:frame]):
                self.assertEqual(value, beside, at)

    def test_lengths(self):
        for told in random_moves("guarantees", 60, longest=40):
            one, start, many = made(*told), plain_first(*told), plain_through(told)
            lengths = [plain_value(*told, start + at + 7) - plain_value(*told, start + at) for at in range(2 * many)]
            self.assertEqual(stretch(one, 7), (min(lengths), max(lengths)))

    def test_clock(self):
        for bases, rows in HOUSES[:12]:
            house = House(bases, rows)
            groups, frames = house.round
            common = gcd(groups, frames)
            least, where, greatest, there = swing(house, (frames // common, groups // common))
            told = [drift(house, (frames // common, groups // common), frame) for frame in range(2 * frames)]
            exact = [number * (frames // common * bases[-1]) // parts for number, parts in told]
            self.assertEqual((told[where], told[there]), (least, greatest))
            self.assertEqual((exact.index(min(exact)), exact.index(max(exact))), (where, there))
            self.assertIsNone(swing(house, (frames // common, groups // common + 1)))

    def test_mends(self):
        exchanges = ((0, ("on", 1)), (1, ("on", 1)), (0, ("rate", 1, 1)), (1, ("label", 5, "last")))
        start = move(("on", 2), ("back", 1))
        lots = mending(start, exchanges, (("alike", text(("on", 2))),))
        self.assertEqual(lots, ((0, 1),))
        self.assertEqual(mending(start, exchanges, (("later", text(("on", 1))),)), ((),))

    def test_rooms(self):
        random, room = Random("guarantees"), Room(move(("on", 5), ("on", 0)))
        for wish in (("single",), ("within", text(), 0, 9), ("stretch", 3, 2, 4)):
            room.wish(wish)
        for _ in range(200):
            try:
                room.put(random.randrange(2), random.choice((("on", random.randrange(9)), ("label", random.randrange(9), "next"), ("rate", 1, 2))))
            except Broken as error:
                self.assertIn(error.index, (0, 1, 2))
            self.assertEqual([shown_against(room.move, wish) for wish in room.wishes], [None] * 3)
        self.assertGreater(room.changes, 10)

    def test_checker(self):
        """It accepts the certificates of this package, and accepts nothing that is not true."""
        for one, other in pairs("checked", 60, longest=60):
            left, right = made(*one), made(*other)
            for told in (certify_alike(left, right), certify_within(left, right), certify_stretch(left, 9), certify_missed(left), certify_doubled(left)):
                if told is not None:
                    self.assertIs(accepts(*told), True)
            unlike = first_unlike(left, right)
            for number in (1, 2, plain_through(one, other), 20000):
                self.assertFalse(unlike is not None and accepts(("alike", str(left), str(right)), number))
            for frame in range(20):
                self.assertIs(accepts(("unlike", str(left), str(right)), frame), plain_value(*one, frame) != plain_value(*other, frame))


class Conventions(Raising):
    def test_answers_for_all_frames_at_once(self):
        """[1]: also for numbers of forty figures."""
        far = 10 ** 40
        one, other = Move((drop, full), (("read", 1, "next"),)), Move((drop, full), (("call", 1),))
        self.assertEqual(one.of(17982 * far), 18000 * far)
        self.assertEqual(distances(one, other), (0, None))
        # The last two labels of ten minutes are skipped 1798 frames ahead of their end, the next two 1800 behind it.
        self.assertEqual(first_at(one, other, 18 * far), 17982 * far - 1798)
        self.assertEqual(times_at(one, other, 18 * far, 17982 * (far + 1)), 3598)
        self.assertEqual(stretch(one, 17982 * far), (18000 * far, 18000 * far))
        self.assertEqual(start_for(one, 18000 * far), 17982 * far)
        number, parts = drift(drop, PACE, 30000 * far)
        self.assertEqual(number * 30, (drop.place(30000 * far) - 30030 * far) * parts)
        self.assertEqual(fitting((drop, full), ((17982 * far, drop.written(17982 * far)),)), (0,))
        self.assertEqual(Cutlist(full, far, ((drop, far, far),)).look(far - 1), (0, 2 * far - 1, 2 * far - 1))
        self.assertEqual(shown_against(other, ("within", str(one), -18 * far, 0)), 17982 * far + 1800)
        self.assertIs(accepts(("stretch", str(one), 17982 * far, 18000 * far, 18000 * far), 17982), True)
        self.assertEqual(Console(one).say(f"value {17982 * far}"), str(18000 * far))

    def test_tuples_are_returned_and_truths_are_truths(self):
        """[3]"""
        told = (
            small.bases, small.rows, small.round, small.label(5), ON.houses, ON.steps, ON.round, distances(ON, OVER), stretch(ON, 5), swing(small, (5, 2)),
            drift(small, (5, 2), 1), Cutlist(small, 0).clips, Cutlist(small, 0).starts, Cutlist(small, 0).joins, fitting((small,), ()),
            told_surely((small,), (), 0), mending(ON, (), ()), Room(ON).wishes, certify_alike(ON, ON), certify_stretch(ON, 1)[0],
        )
        self.assertEqual([type(value) for value in told], [tuple] * len(told))
        for truth in (accepts(0, 0), accepts(*certify_alike(ON, ON)), small == small, small != small, ON == OVER, Cutlist(small, 0) == Cutlist(small, 0)):
            self.assertIs(type(truth), bool)

    def test_calls_leave_their_arguments_as_they_are(self):
        """[3]"""
        before = repr(CALLS), str(small), str(ON), str(OVER)
        first = [call(*values) for call, values in CALLS if getattr(call, "__name__", "") not in ("put", "add", "wish")]
        again = [call(*values) for call, values in CALLS if getattr(call, "__name__", "") not in ("put", "add", "wish")]
        self.assertEqual((repr(CALLS), str(small), str(ON), str(OVER)), before)
        for one, other in zip(first, again):
            self.assertTrue(one == other or isinstance(one, (Room, Console)))

    def test_the_first_error_is_raised(self):
        """[4]: arguments are looked at in the order of the signature."""
        for call, values in CALLS:
            for at in range(len(values)):
                wrong = [object() for _ in values]
                with self.assertRaises(PACKAGE_ERRORS) as caught:
                    call(*values[:at], *wrong[at:])
                told = caught.exception
                if hasattr(told, "given"):
                    self.assertIs(told.given, wrong[at])
                else:
                    self.assertIsNone(told.index)

    def test_arguments_of_each_kind(self):
        """[5]: there is an answer or an error of this package, and nothing else."""
        for call, values in CALLS:
            for at in range(len(values)):
                for value in ANYTHING:
                    try:
                        call(*values[:at], value, *values[at + 1:])
                    except PACKAGE_ERRORS as error:
                        self.assertEqual(type(error).__bases__[0] in PACKAGE_ERRORS, True)

    def test_what_is_returned_may_be_passed(self):
        """[5]: of any size."""
        frame = 1
        for _ in range(330):
            frame = move(*[("rate", 100, 1)] * 8).of(frame)
        self.assertEqual(frame, 10 ** 5280)
        self.assertEqual(small.spoken(small.written(frame)), frame)
        self.assertEqual(small.frame(small.label(frame)), frame)
        self.assertEqual(Cutlist(small, frame, ((small, frame, frame),)).look(frame - 1), (0, 2 * frame - 1, 2 * frame - 1))
        self.assertEqual(fitting((small, plain), ((frame, small.written(frame)),)), (0,))
        self.assertIs(accepts(("unlike", str(ON), str(OVER)), frame), True)
        self.assertEqual(repr(Cutlist(small, 0, ((small, 0, frame),))), f"Cutlist(1 clips, 1{'0' * 5280} frames)")

    def test_objects_of_unlike_classes_are_never_equal(self):
        """[5]"""
        objects = (small, ON, Cutlist(small, 0), Room(ON), Console(ON), TooLong(5), Room(ON).trial())
        for one in objects:
            for other in objects:
                self.assertIs(one == other, one is other)
                self.assertIs(one != other, one is not other)
        # What has a length is true unless it is 0.
        self.assertEqual([bool(one) for one in (*objects, move())], [True] * 7 + [False])


class Houses(Raising):
    def test_places_groups_and_units(self):
        """[6]"""
        for house in HOUSES:
            told, made_house = plain_house(house), House(*house)
            for frame in (*range(50), FAR, FAR + 1):
                self.assertEqual(made_house.place(frame), told.place(told.label(frame)))
                # "to" leads to the first frame of the unit; so it is the frame of its first label, or the next one.
                for field in range(len(house[0])):
                    unit = told.label(frame)[:field + 1]
                    start = made_house.at(told.place((*unit, *[0] * (len(house[0]) - field))), "next")
                    if plain_through((((house),), (("to", field),)), most=7000) is not None:
                        self.assertEqual(Move((made_house,), (("to", field),)).of(frame), start)

    def test_the_last_row_that_fits_decides(self):
        """[7]"""
        house = House((2, 3), ((1, 1, 1), (0, 2, 2), (0, 4, 0)))
        self.assertEqual([house.label(frame) for frame in range(9)], [
            (0, 0, 0), (0, 0, 1), (0, 0, 2), (0, 1, 1), (0, 1, 2), (1, 0, 1), (1, 0, 2), (1, 1, 1), (1, 1, 2),
        ])
        self.assertEqual([house.label(frame) for frame in range(9, 12)], [(2, 0, 2), (2, 1, 1), (2, 1, 2)])

    def test_rounds(self):
        """[8]"""
        for house in HOUSES:
            self.assertEqual(House(*house).round, plain_round(*house))

    def test_texts(self):
        """[9]: of labels, houses and moves; strings of what cannot be made are none."""
        for house in HOUSES:
            made_house = House(*house)
            self.assertEqual(House.read(str(made_house)), made_house)
            for frame in (0, 1, 59, FAR):
                self.assertEqual(made_house.written(frame), plain_text(house[0], plain_house(house).label(frame)))
        long = f"{small}\nmove" + "\nrate 1 100" * 3
        self.assert_given(InvalidText, long, Move.read, long)
        self.raised(errors.InvalidWish, shown_against, ON, ("alike", long))
        self.raised(errors.InvalidWish, Room(ON).wish, ("alike", long))
        self.assert_index(errors.InvalidWishes, 0, mending, ON, (), (("alike", long),))
        self.assertIs(accepts(("unlike", str(ON), long), 0), False)


class Moves(Raising):
    @classmethod
    def setUpClass(cls):
        cls.cases = [(told, made(*told)) for told in random_moves("document", 80, longest=60)]

    def test_values(self):
        """[10]: also of the moves that rooms, consoles and texts give."""
        for told, one in self.cases:
            room = Room(Move(one.houses))
            for step in one.steps:
                room.add(step)
            console = Console(one)
            for frame in (0, 1, 5, 17, FAR):
                value = plain_value(*told, frame)
                self.assertEqual([one.of(frame), room.move.of(frame), Move.read(str(one)).of(frame)], [value] * 3)
                self.assertEqual(console.say(f"value {frame}"), "lost" if value is None else str(value))

    def test_first_frame_and_round(self):
        """[11]"""
        for told, one in self.cases:
            self.assertEqual(one.first, plain_first(*told))
            many, growth = one.round
            values = [plain_value(*told, one.first + at) for at in range(3 * plain_through(told))]
            self.assertTrue(all(later == value + growth for value, later in zip(values, values[many:])))
            for less in range(1, many):
                self.assertFalse(all(later - value == values[less] - values[0] for value, later in zip(values, values[less:])))
            self.assertEqual((Console(one).say("first"), Console(one).say("round")), (str(one.first), f"{many} {growth}"))

    def test_texts(self):
        """[12]"""
        for _, one in self.cases:
            lines = "\n".join([*map(str, one.houses), "move", *[" ".join(map(str, step)) for step in one.steps]])
            self.assertEqual((str(one), Move.read(lines)), (lines, one))
            self.assertEqual(Console(one).say("move"), " / ".join(lines.split("\nmove")[1].split("\n")[1:]) or "-")
            self.assertIsNone(shown_against(one, ("alike", lines)))

    def test_alike_and_distances(self):
        """[13]: lost frames count for "alike", and have no distance."""
        early, late = move(), move(("back", 4), ("on", 4))
        self.assertEqual((first_unlike(early, late), distances(early, late)), (0, (0, 0)))
        self.assertEqual((shown_against(early, ("alike", str(late))), shown_against(early, ("within", str(late), 0, 0))), (0, None))
        self.assertEqual(certify_alike(early, late)[0][0], "unlike")
        self.assertEqual(certify_within(early, late)[0][3:], (0, 0))
        self.assertEqual([accepts(("unlike", str(early), str(late)), frame) for frame in (3, 4)], [True, False])
        self.assertEqual([accepts(("beyond", str(early), str(late), 1, 2), frame) for frame in (3, 4)], [False, True])

    def test_numbers_that_go_through(self):
        """[17]: the certificates have the least one, and TooLong tells that it is above 20000."""
        for told, one in self.cases:
            least = plain_through(told)
            self.assertEqual(certify_stretch(one, 1)[1], least)
            claim = ("stretch", str(one), 1, 0, FAR)
            for number in range(1, 2 * least + 1):
                self.assertIs(accepts(claim, number), plain_becoming(*told, number) is not None)
        prime, other = (("rate", 1, 97), ("rate", 1, 83)), (("rate", 1, 89),)
        self.assertGreater(lcm(97 * 83, 89), 20000)
        for call in (first_unlike, first_earlier, distances, certify_alike, certify_within):
            self.assert_too_long(call, move(*prime), move(*other))
        self.assert_too_long(Room(move(*prime)).wish, ("later", text(*other)))
        self.assert_too_long(Room(move(*prime)).add, other[0])
        self.assertEqual(Console(move(*prime)).say("add rate 1 89"), "TooLong")


class Others(Raising):
    def test_drift(self):
        """[14]: the place in seconds, less the time on the clock."""
        self.assertEqual(drift(drop, PACE, 0), (0, 1))
        self.assertEqual(drift(drop, PACE, 1800), (1, 150))
        self.assertEqual(swing(small, (5, 2)), ((1, 15), 4, (1, 3), 0))
        self.assertEqual(first_beyond(small, (5, 2), (1, 4)), 0)

    def test_clips(self):
        """[15]: the record shows the frames of the clips one behind the other."""
        record = Cutlist(plain, 7, ((small, 2, 3), (House(*SMALL), 5, 2), (small, 8, 1)))
        told = [(0, 2, 7), (0, 3, 8), (0, 4, 9), (1, 5, 10), (1, 6, 11), (2, 8, 12)]
        self.assertEqual([record.look(number) for number in range(record.total)], told)
        self.assertEqual((record.joins, record.joined().starts), ((1,), (7, 12)))

    def test_wishes(self):
        """[16]: what is shown for a wish is what mends, rooms, the checker and the certificates go by."""
        for wish, opposite, frame in (
            (("alike", text(("label", 2, "next"))), "unlike", 4), (("later", text(("on", 3))), "earlier", 0), (("within", text(), 0, 1), "beyond", 0),
            (("stretch", 2, 0, 1), "stretched", 0),
        ):
            self.assertEqual(shown_against(ON, wish), frame)
            error = self.raised(Broken, Room(ON).wish, wish)
            self.assertEqual((error.index, error.shown), (0, frame))
            self.assertEqual(mending(ON, (), (wish,)), ())
            self.assertIs(accepts((opposite, str(ON), *wish[1:]), frame), True)
            self.assertIs(accepts((wish[0], str(ON), *wish[1:]), 5), False)
        self.assertEqual(shown_against(OVER, ("full",)), certify_missed(OVER)[0][2])
        self.assertEqual(Console(OVER).say("wish full"), "Broken")

    def test_claims(self):
        """[18]: what `shown_against` tells is a certificate for the opposite claim."""
        for one, other in pairs("opposites", 60, longest=60):
            left, right = made(*one), made(*other)
            for word, opposite, *bounds in (("alike", "unlike"), ("later", "earlier"), ("within", "beyond", -2, 2)):
                frame = shown_against(left, (word, str(right), *bounds))
                through = plain_through(one, other)
                claim = (word, str(left), str(right), *bounds)
                self.assertIs(accepts(claim, through), frame is None)
                if frame is not None:
                    self.assertIs(accepts((opposite, *claim[1:]), frame), True)


if __name__ == "__main__":
    unittest.main()
