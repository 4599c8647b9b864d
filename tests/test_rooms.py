"""Rooms: [16], [2] (Rooms)."""

import unittest
from collections import Counter
from itertools import permutations
from random import Random

from plain_moves import FAR, SMALL, random_move, random_moves, random_step
from raising import Raising
from test_shown import NO_NUMBERS, NO_TEXTS, move, text
from wrong_values import Agreeing, Refusing, nested

from labelmoves.errors import Broken, InvalidNumber, InvalidStep, InvalidWish, NoAnswer, NotAMove, NothingToUndo, TooLong, WrongState, WrongValue
from labelmoves.houses import House
from labelmoves.mends import shown_against
from labelmoves.moves import Move
from labelmoves.rooms import Room

small, flat = House(*SMALL), House((3,))
ON, GOAL = ("on", 2), text(("on", 2))
DOWN = ("rate", 1, 100)
SINGLE, FULL = ("single",), ("full",)


class Other(Exception):
    """An error of another package."""


def told(room):
    """All that a room tells of itself."""
    return room.move, room.wishes, room.changes


def room_with(steps, *wishes, houses=(small,)):
    room = Room(Move(houses, steps))
    for wish in wishes:
        room.wish(wish)
    return room


class RoomCase(Raising):
    def assert_broken(self, index, shown, call, *values):
        error = self.raised(Broken, call, *values)
        self.assertEqual((error.index, error.shown), (index, shown))
        self.assertEqual((type(error.index), type(error.shown)), (int, int))

    def assert_unchanged(self, room, call, *values):
        """The call raises, and the room is as before."""
        before = told(room)
        with self.assertRaises((WrongValue, WrongState, NoAnswer)):
            call(*values)
        self.assertEqual(told(room), before)


class Plain:
    """A room once more: all moves and wishes so far are kept, and all wishes asked anew."""

    def __init__(self, start):
        self.past = [(start, ())]

    def asked(self, start, wishes):
        for index, wish in enumerate(wishes):
            shown = shown_against(start, wish)
            if shown is not None:
                raise Broken(index, shown)
        self.past.append((start, wishes))

    def done(self, word, *parts):
        start, wishes = self.past[-1]
        if word == "put":
            self.asked(start.with_step(*parts), wishes)
        elif word == "add":
            self.asked(start.then(*parts), wishes)
        elif word == "wish":
            shown_against(start, *parts)
            self.asked(start, (*wishes, *parts))
        elif word == "lift":
            if not 0 <= parts[0] < len(wishes):
                raise InvalidNumber(parts[0])
            self.past.append((start, wishes[:parts[0]] + wishes[parts[0] + 1:]))
        elif len(self.past) == 1:
            raise NothingToUndo()
        else:
            self.past.pop()

    def told(self):
        return *self.past[-1], len(self.past) - 1


def outcome(call, *values):
    """What the call returns, or the error that it raises with its attributes."""
    try:
        return call(*values)
    except (WrongValue, WrongState, NoAnswer) as error:
        return type(error), vars(error)


def random_change(random, houses, room):
    """A change that may be done, and sometimes cannot."""
    word = random.choice("put put put add add wish wish wish lift undo undo".split())
    if word == "put":
        step = random_step(random, houses, 0, 7)
        return word, random.randrange(len(room.move) + 1), random.choice((step, step, step, ("on",), ("to", 3), DOWN))
    if word == "add":
        return word, random.choice((random_step(random, houses, random.randrange(len(houses)), 7), ("on", 0), DOWN, ("on", -1)))
    if word == "wish":
        goal = random.choice((str(room.move), text(("on", 3)), text(("back", 2)), text(DOWN, ("rate", 1, 7))))
        return word, random.choice((
            ("alike", goal), ("later", goal), ("within", goal, -5, 5), ("within", goal, -1, 9), ("stretch", 3, 1, 6), ("stretch", 1, 0, FAR),
            FULL, SINGLE, ("full", 1), ("alike", "move"),
        ))
    if word == "lift":
        return word, random.randrange(len(room.wishes) + 1)
    return (word,)


class OneByOne(RoomCase):
    def test_one_change_behind_the_other(self):
        random, seen = Random("changes"), Counter()
        for houses, steps in random_moves("rooms", 60, most=4):
            start = Move(tuple(House(*house) for house in houses), steps)
            room, plain = Room(start), Plain(start)
            for _ in range(40):
                word, *parts = random_change(random, houses, room)
                expected = outcome(plain.done, word, *parts)
                self.assertEqual(outcome(getattr(room, word), *parts), expected)
                self.assertEqual(told(room), plain.told())
                self.assertEqual([shown_against(room.move, wish) for wish in room.wishes], [None] * len(room.wishes))
                seen[word, expected and expected[0]] += 1
            while room.changes:
                self.assertIsNone(room.undo())
                plain.done("undo")
                self.assertEqual(told(room), plain.told())
            self.assertEqual(told(room), (start, (), 0))
            self.raised(NothingToUndo, room.undo)
        for word in ("put", "add", "wish", "lift", "undo"):
            self.assertGreater(seen[word, None], 50)
        for word, error in (("put", Broken), ("put", InvalidNumber), ("put", InvalidStep), ("add", Broken), ("add", InvalidStep), ("wish", Broken), ("wish", InvalidWish)):
            self.assertGreater(seen[word, error], 10, (word, error))
        for word, error in (("put", TooLong), ("add", TooLong), ("wish", TooLong), ("lift", InvalidNumber), ("undo", NothingToUndo)):
            self.assertGreater(seen[word, error], 0, (word, error))

    def test_trials_within_trials(self):
        random = Random("trials")
        for _ in range(150):
            houses, steps = random_move(random, most=3)
            room = Room(Move(tuple(House(*house) for house in houses), steps))
            trials = [room.trial() for _ in range(3)]
            self.tried_somehow(random, houses, room, trials, 4)

    def tried_somehow(self, random, houses, room, trials, depth):
        """Changes, and trials with changes within, of which every second one ends with an exception."""
        for _ in range(random.randrange(4)):
            word, *parts = random_change(random, houses, room)
            outcome(getattr(room, word), *parts)
            if depth and random.random() < 0.6:
                before, error = told(room), random.choice((None, Other()))
                try:
                    with random.choice(trials) as held:
                        self.assertIs(held, room)
                        self.tried_somehow(random, houses, room, trials, depth - 1)
                        within = told(room)
                        if error:
                            raise error
                except Other as caught:
                    self.assertIs(caught, error)
                self.assertEqual(told(room), before if error else within)


class Changes(RoomCase):
    def test_at_first(self):
        start = move(ON)
        room = Room(start)
        self.assertEqual(told(room), (start, (), 0))
        self.assertIs(room.move, start)
        self.assertEqual((type(room.wishes), type(room.changes)), (tuple, int))

    def test_put(self):
        room = room_with((ON, ("on", 1)))
        self.assertIsNone(room.put(1, ("rate", 2, 1)))
        self.assertEqual(told(room), (move(ON, ("rate", 2, 1)), (), 1))
        self.assertIsNone(room.put(index=0, step=("call", 0)))
        self.assertEqual(told(room), (move(("call", 0), ("rate", 2, 1)), (), 2))

    def test_add(self):
        room = room_with(())
        for many in range(8):
            self.assertIsNone(room.add(("on", many)))
            self.assertEqual((len(room.move), room.move.steps[-1], room.changes), (many + 1, ("on", many), many + 1))
        step = ("on", 8)
        self.assert_given(InvalidStep, step, room.add, step)
        self.assertEqual((len(room.move), room.changes), (8, 8))
        room.undo()
        self.assertIsNone(room.add(step=step))
        self.assertEqual(room.move.steps[-1], step)

    def test_wish(self):
        room = room_with((ON,))
        wish = ("within", GOAL, 0, 0)
        self.assertIsNone(room.wish(SINGLE))
        self.assertIsNone(room.wish(wish=wish))
        self.assertIsNone(room.wish(SINGLE))
        self.assertEqual(told(room), (move(ON), (SINGLE, wish, SINGLE), 3))
        self.assertIs(room.wishes[1], wish)

    def test_lift(self):
        room = room_with((ON,), SINGLE, FULL, ("later", GOAL))
        self.assertIsNone(room.lift(1))
        self.assertEqual(told(room), (move(ON), (SINGLE, ("later", GOAL)), 4))
        self.assertIsNone(room.lift(index=0))
        self.assertIsNone(room.lift(0))
        self.assertEqual(told(room), (move(ON), (), 6))

    def test_lifted_wishes_are_no_longer_asked(self):
        room = room_with((ON,), SINGLE, FULL)
        self.assert_broken(0, 0, room.put, 0, ("rate", 1, 2))
        room.lift(0)
        room.put(0, ("rate", 1, 2))
        self.assert_broken(0, 1, room.put, 0, ("rate", 2, 1))
        room.undo()
        room.undo()
        self.assertEqual(told(room), (move(ON), (SINGLE, FULL), 2))
        self.assert_broken(0, 0, room.put, 0, ("rate", 1, 2))

    def test_many_wishes_and_changes(self):
        room = room_with((ON,), *[SINGLE] * 60)
        for amount in range(300):
            room.put(0, ("on", amount))
        self.assertEqual(told(room), (move(("on", 299)), (SINGLE,) * 60, 360))
        self.assert_broken(0, 0, room.put, 0, DOWN)
        for _ in range(360):
            room.undo()
        self.assertEqual(told(room), (move(ON), (), 0))


class Undo(RoomCase):
    def test_one_change_after_another(self):
        room = room_with((ON,), SINGLE)
        before = [told(room)]
        for word, *parts in (("put", 0, ("on", 3)), ("add", ("on", 1)), ("wish", FULL), ("lift", 0), ("put", 1, ("on", 1)), ("lift", 0)):
            getattr(room, word)(*parts)
            before.append(told(room))
        for past in reversed(before[:-1]):
            self.assertIsNone(room.undo())
            self.assertEqual(told(room), past)
        room.undo()
        self.assertEqual(told(room), (move(ON), (), 0))
        for _ in range(2):
            self.raised(NothingToUndo, room.undo)
            self.assertEqual(told(room), (move(ON), (), 0))

    def test_changes_by_which_nothing_became_other(self):
        room = room_with((ON,))
        room.put(0, ("on", 1))
        room.put(0, ("on", 1))
        room.put(0, ("on", 1))
        self.assertEqual(room.changes, 3)
        room.undo()
        self.assertEqual(told(room), (move(("on", 1)), (), 2))
        room.undo()
        self.assertEqual(told(room), (move(("on", 1)), (), 1))
        room.undo()
        self.assertEqual(told(room), (move(ON), (), 0))

    def test_what_was_taken_back_is_gone(self):
        room = room_with((ON,))
        room.put(0, ("on", 1))
        room.undo()
        room.add(("on", 5))
        self.assertEqual(told(room), (move(ON, ("on", 5)), (), 1))
        room.undo()
        self.assertEqual(told(room), (move(ON), (), 0))
        self.raised(NothingToUndo, room.undo)


class Wishes(RoomCase):
    # Rates down to one in ten thousand and to a third take too long together.
    long = ("later", text(DOWN, DOWN))
    third = ("rate", 1, 3)

    def test_broken_by_each_change_of_the_move(self):
        wishes = (SINGLE, ("later", GOAL), ("stretch", 2, 2, 2))
        room = room_with((ON,), *wishes)
        for index, shown, call, *values in (
            (0, 0, room.put, 0, ("rate", 1, 2)), (1, 0, room.put, 0, ("on", 1)), (1, 0, room.put, 0, ("rate", 2, 1)),
            (2, 0, room.add, ("rate", 2, 1)), (0, 0, room.add, ("rate", 1, 2)), (1, 2, room.add, ("back", 4)),
            (0, 2, room.put, 0, ("label", 3, "next")),
        ):
            self.assert_broken(index, shown, call, *values)
            self.assertEqual(told(room), (move(ON), wishes, 3))

    def test_a_wish_that_does_not_hold(self):
        room, wish = room_with((ON,), SINGLE, FULL), ("alike", text(("label", 2, "next")))
        self.assert_broken(2, 4, room.wish, wish)
        self.assertEqual(told(room), (move(ON), (SINGLE, FULL), 2))
        self.assert_broken(0, 4, room_with((ON,)).wish, wish)

    def test_a_wish_that_cannot_be_asked(self):
        room = room_with((("rate", 1, 3),), FULL)
        self.assert_too_long(room.wish, self.long)
        self.assert_too_long(room.wish, ("alike", text(DOWN, DOWN)))
        self.assertEqual(told(room), (move(("rate", 1, 3)), (FULL,), 1))

    def test_shown_frames_of_thirty_figures(self):
        room = room_with((("on", FAR),), FULL)
        self.assert_broken(1, FAR + 1, room.wish, ("later", text(("rate", 2, 1))))
        room = room_with((ON,), SINGLE, ("within", text(), 0, FAR), FULL)
        self.assert_broken(1, 10 ** 31 + 80, room.put, 0, ("rate", 11, 10))

    def test_the_first_one_that_does_not_hold_decides(self):
        # The move with the step doubles frames from frame 0 on, comes too early at frame 2, and stays alike until frame 1.
        start, step = (("rate", 1, 1), ("rate", 1, 1)), ("rate", 1, 2)
        shown = {SINGLE: 0, ("later", text(("back", 1))): 3, ("alike", text()): 1, FULL: None}
        for wish, frame in shown.items():
            self.assertEqual(shown_against(move(step), wish), frame)
        for wishes in permutations(shown):
            room = room_with(start, *wishes)
            index = next(index for index, wish in enumerate(wishes) if shown[wish] is not None)
            self.assert_broken(index, shown[wishes[index]], room.put, 0, step)
            self.assert_broken(index, shown[wishes[index]], room.put, 1, step)
            self.assert_broken(index, shown[wishes[index]], room.add, step)
            self.assertEqual(told(room), (move(*start), wishes, 4))

    def test_too_long_and_broken_by_their_order(self):
        start = (("rate", 1, 1), ("rate", 1, 1))
        for wishes, index in (
            ((self.long, SINGLE), None), ((FULL, self.long, SINGLE), None), ((self.long, FULL, SINGLE, self.long), None),
            ((SINGLE, self.long), 0), ((FULL, SINGLE, self.long), 1), ((SINGLE, FULL, self.long, SINGLE), 0),
        ):
            room = room_with(start, *wishes)
            for call, *values in ((room.put, 0, self.third), (room.put, 1, self.third), (room.add, self.third)):
                if index is None:
                    self.assert_too_long(call, *values)
                else:
                    self.assert_broken(index, 0, call, *values)
                self.assertEqual(told(room), (move(*start), wishes, len(wishes)))

    def test_a_new_wish_comes_behind_the_others(self):
        room = room_with((ON,), FULL)
        room.wish(SINGLE)
        room.wish(("stretch", 1, 1, 1))
        self.assertEqual(room.wishes, (FULL, SINGLE, ("stretch", 1, 1, 1)))
        room.lift(0)
        self.assert_broken(0, 0, room.put, 0, DOWN)
        self.assert_broken(1, 0, room.put, 0, ("rate", 2, 1))


class Errors(RoomCase):
    def test_no_moves(self):
        for given in (*NO_NUMBERS, 0, 1, str(move(ON)), [move(ON)], (move(ON),), small, Move, Room, Room(move(ON))):
            if not isinstance(given, Move):
                self.assert_given(NotAMove, given, Room, given)
                self.assert_given(NotAMove, given, Room, move=given)

    def test_put(self):
        room = room_with((ON, DOWN, DOWN), FULL)
        for given in (*NO_NUMBERS, 3, 4, 10 ** 40):
            self.assert_given(InvalidNumber, given, room.put, given, ON)
            self.assert_given(InvalidNumber, given, room.put, given, None)
        for given in (*NO_NUMBERS, 0, ["on", 2], "on 2", ("on",), ("on", -1), ("on", True), ("call", 1), ("rate", 1, 101), nested(40)):
            self.assert_given(InvalidStep, given, room.put, 0, given)
        self.assert_too_long(room.put, 0, ("rate", 1, 3))
        self.assert_broken(0, 1, room_with((ON,), FULL).put, 0, ("rate", 2, 1))
        self.assertEqual(told(room), (move(ON, DOWN, DOWN), (FULL,), 1))

    def test_put_where_a_later_step_is_none_any_more(self):
        room = room_with((ON, ("to", 1)), houses=(small, flat))
        step = ("call", 1)
        self.assert_given(InvalidStep, step, room.put, 0, step)
        self.assertEqual(room.move.steps, (ON, ("to", 1)))

    def test_put_into_a_move_without_steps(self):
        self.assert_given(InvalidNumber, 0, Room(move()).put, 0, ON)

    def test_add(self):
        room = room_with((DOWN, DOWN), FULL)
        for given in (*NO_NUMBERS, 0, ["on", 2], "on 2", ("on",), ("on", -1), ("on", True), ("call", 1), ("rate", 1, 101), nested(40)):
            self.assert_given(InvalidStep, given, room.add, given)
        self.assert_too_long(room.add, ("rate", 1, 3))
        self.assert_broken(0, 5, room_with((ON,), FULL).add, ("rate", 2, 1))
        self.assertEqual(told(room), (move(DOWN, DOWN), (FULL,), 1))

    def test_a_ninth_step(self):
        room, step = room_with((ON,) * 8, SINGLE), ("rate", 1, 2)
        self.assert_given(InvalidStep, step, room.add, step)
        # A ninth step is none, also where it would take too long.
        room, step = room_with((DOWN, DOWN) + (ON,) * 6), ("rate", 1, 3)
        self.assert_given(InvalidStep, step, room.add, step)
        self.assertEqual(room.changes, 0)

    def test_wish(self):
        room = room_with((DOWN, DOWN), FULL)
        others = (0, "full", ["full"], ("full", 0), ("single ",), ("stretch", -1, 0, 0), ("stretch", 1, 0), ("within", GOAL, 0, True))
        for given in (*NO_NUMBERS, *others, *[("alike", wrong) for wrong in NO_TEXTS]):
            self.assert_given(InvalidWish, given, room.wish, given)
        self.assert_too_long(room.wish, ("alike", text(("rate", 1, 3))))
        self.assert_broken(1, 0, room.wish, SINGLE)
        self.assertEqual(told(room), (move(DOWN, DOWN), (FULL,), 1))

    def test_lift(self):
        room = room_with((ON,), FULL, SINGLE)
        for given in (*NO_NUMBERS, 2, 3, 10 ** 40):
            self.assert_given(InvalidNumber, given, room.lift, given)
        self.assert_given(InvalidNumber, 0, Room(move(ON)).lift, 0)
        self.assertEqual(told(room), (move(ON), (FULL, SINGLE), 2))

    def test_a_call_that_raises_is_no_change(self):
        room = room_with((ON,), FULL, SINGLE)
        for call, *values in (
            (room.put, 1, ON), (room.put, 0, ("on",)), (room.put, 0, DOWN), (room.add, ("on",)), (room.add, DOWN), (room.wish, ("full", 1)),
            (room.wish, ("alike", text())), (room.lift, 2),
        ):
            self.assert_unchanged(room, call, *values)
        for _ in range(2):
            room.undo()
        self.assert_unchanged(room, room.undo)

    def test_attributes_cannot_be_set(self):
        room = room_with((ON,))
        for name in ("move", "wishes", "changes"):
            with self.assertRaises(AttributeError):
                setattr(room, name, 0)


class Trials(RoomCase):
    def changed(self, room):
        room.put(0, ("on", 5))
        room.wish(FULL)
        room.lift(0)

    def test_as_gives_the_room(self):
        room = room_with((ON,), SINGLE)
        with room.trial() as held:
            self.assertIs(held, room)

    def test_without_an_exception_all_stays(self):
        room = room_with((ON,), SINGLE)
        with room.trial():
            self.changed(room)
        self.assertEqual(told(room), (move(("on", 5)), (FULL,), 4))
        room.undo()
        self.assertEqual(told(room), (move(("on", 5)), (SINGLE, FULL), 3))

    def test_with_an_exception_all_is_as_before(self):
        for error in (Other(), KeyError("x"), ValueError(), KeyboardInterrupt(), SystemExit(1), Broken(0, 0), StopIteration()):
            room = room_with((ON,), SINGLE)
            before = told(room)
            with self.assertRaises(type(error)) as caught:
                with room.trial():
                    self.changed(room)
                    raise error
            self.assertIs(caught.exception, error)
            self.assertEqual(told(room), before)
            room.undo()
            self.assertEqual(told(room), (move(ON), (), 0))

    def test_an_error_of_the_room_itself(self):
        room = room_with((ON,), SINGLE)
        with self.assertRaises(Broken) as caught:
            with room.trial() as held:
                held.put(0, ("on", 3))
                held.add(DOWN)
        self.assertEqual((caught.exception.index, caught.exception.shown), (0, 0))
        self.assertEqual(told(room), (move(ON), (SINGLE,), 1))

    def test_an_exception_that_is_caught_within(self):
        room = room_with((ON,), SINGLE)
        with room.trial():
            room.put(0, ("on", 3))
            self.raised(Broken, room.add, DOWN)
        self.assertEqual(told(room), (move(("on", 3)), (SINGLE,), 2))

    def test_changes_taken_back_within(self):
        room = room_with((ON,), SINGLE, FULL)
        before = told(room)
        with self.assertRaises(Other):
            with room.trial():
                for _ in range(2):
                    room.undo()
                room.put(0, DOWN)
                raise Other
        self.assertEqual(told(room), before)
        for wishes in ((SINGLE,), ()):
            room.undo()
            self.assertEqual(room.wishes, wishes)
        with room.trial():
            self.raised(NothingToUndo, room.undo)
        self.assertEqual(room.changes, 0)

    def test_the_trial_alone_changes_nothing(self):
        room = room_with((ON,), SINGLE)
        before = told(room)
        trials = [room.trial() for _ in range(3)]
        self.assertEqual(told(room), before)
        room.put(0, ("on", 5))
        # It counts when its rows begin, not when it was made.
        with self.assertRaises(Other):
            with trials[0]:
                room.put(0, ("on", 6))
                raise Other
        self.assertEqual(told(room), (move(("on", 5)), (SINGLE,), 2))

    def test_trials_within_trials(self):
        room = room_with((ON,))
        with self.assertRaises(Other):
            with room.trial():
                room.put(0, ("on", 3))
                with room.trial():
                    room.put(0, ("on", 4))
                self.assertEqual(room.move, move(("on", 4)))
                with self.assertRaises(KeyError):
                    with room.trial():
                        room.put(0, ("on", 5))
                        raise KeyError
                self.assertEqual(told(room), (move(("on", 4)), (), 2))
                raise Other
        self.assertEqual(told(room), (move(ON), (), 0))

    def test_one_object_within_itself(self):
        room = room_with((ON,))
        trial = room.trial()
        with self.assertRaises(Other):
            with trial as outer:
                outer.put(0, ("on", 3))
                with self.assertRaises(KeyError):
                    with trial as inner:
                        self.assertIs(inner, room)
                        inner.put(0, ("on", 4))
                        with trial:
                            room.put(0, ("on", 5))
                        raise KeyError
                self.assertEqual(told(room), (move(("on", 3)), (), 1))
                raise Other
        self.assertEqual(told(room), (move(ON), (), 0))
        with trial:
            room.put(0, ("on", 6))
        with self.assertRaises(Other), trial:
            room.put(0, ("on", 7))
            raise Other
        self.assertEqual(told(room), (move(("on", 6)), (), 1))

    def test_two_rooms(self):
        one, other = room_with((ON,)), room_with((ON,))
        with self.assertRaises(Other):
            with one.trial():
                other.put(0, ("on", 3))
                one.put(0, ("on", 4))
                raise Other
        self.assertEqual(told(one), (move(ON), (), 0))
        self.assertEqual(told(other), (move(("on", 3)), (), 1))


class Tried(RoomCase):
    def test_called_with_the_room_and_returns_what_it_returns(self):
        room = room_with((ON,))
        self.assertIs(room.tried(lambda held: held), room)
        for value in (None, 0, False, [], Refusing(), Agreeing()):
            self.assertIs(room.tried(lambda held: value), value)
            self.assertIs(room.tried(action=lambda held: value), value)
        self.assertIsNone(room.tried(lambda held: held.put(0, ("on", 3))))
        self.assertEqual(told(room), (move(("on", 3)), (), 1))

    def test_an_exception_takes_all_back(self):
        room, error = room_with((ON,), SINGLE), Other()

        def action(held):
            held.put(0, ("on", 3))
            held.undo()
            held.undo()
            raise error

        with self.assertRaises(Other) as caught:
            room.tried(action)
        self.assertIs(caught.exception, error)
        self.assertEqual(told(room), (move(ON), (SINGLE,), 1))
        self.assert_broken(0, 0, room.tried, lambda held: [held.put(0, ("on", 3)), held.add(DOWN)])
        self.assertEqual(told(room), (move(ON), (SINGLE,), 1))

    def test_tried_within_tried(self):
        room = room_with((ON,))

        def inner(held):
            held.put(0, ("on", 4))
            raise Other

        def outer(held):
            held.put(0, ("on", 3))
            with self.assertRaises(Other):
                held.tried(inner)
            return held.move.steps

        self.assertEqual(room.tried(outer), (("on", 3),))
        self.assertEqual(told(room), (move(("on", 3)), (), 1))


class Alone(RoomCase):
    def test_rooms_leave_all_others_as_they_are(self):
        start = move(ON)
        one, other = Room(start), Room(start)
        wish = ("within", GOAL, 0, 9)
        one.wish(wish)
        one.put(0, ("on", 3))
        self.assertEqual((told(other), start), ((move(ON), (), 0), move(ON)))
        held = one.move
        one.put(0, ("on", 4))
        other.add(ON)
        self.assertEqual((held, start, wish), (move(("on", 3)), move(ON), ("within", GOAL, 0, 9)))
        self.assertEqual(told(one), (move(("on", 4)), (wish,), 3))
        self.assertEqual(told(other), (move(ON, ON), (), 1))

    def test_equal_to_itself_alone_and_true(self):
        one, other = Room(move()), Room(move())
        self.assertIs(one == one, True)
        self.assertIs(one != one, False)
        for value in (other, *NO_NUMBERS, move(), 0, 1, Room, one.trial()):
            if not isinstance(value, (Agreeing, Refusing)):
                self.assertIs(one == value, False)
                self.assertIs(one != value, True)
                self.assertIs(value == one, False)
                self.assertIs(value != one, True)
        self.assertIs(bool(one), True)

    def test_the_same_again_is_equal(self):
        rooms = [room_with((ON,), SINGLE, FULL) for _ in range(2)]
        for room in rooms:
            room.add(("on", 1))
            room.lift(0)
            room.undo()
        self.assertEqual(told(rooms[0]), told(rooms[1]))


if __name__ == "__main__":
    unittest.main()
