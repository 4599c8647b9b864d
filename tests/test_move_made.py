"""Making moves, and what two moves are to each other: [3], [4], [5], [10]."""

from copy import deepcopy

from plain_moves import PLAIN, SMALL, made, random_moves
from raising import Raising
from wrong_values import INTEGERS_BELOW, OTHER_KINDS, STRINGS, TRUTHS, TUPLES_OF_INTEGERS, Agreeing, nested

from labelmoves.errors import InvalidHouses, InvalidNumber, InvalidStep, InvalidSteps, InvalidText
from labelmoves.houses import House
from labelmoves.moves import Move

small, plain, flat = House(*SMALL), House(*PLAIN), House((3,))

ON = ("on", 2)
TOO_LONG = (("rate", 1, 100), ("rate", 1, 100), ("rate", 1, 3))
NO_NUMBERS = (*OTHER_KINDS, *TRUTHS, *STRINGS, *TUPLES_OF_INTEGERS, *INTEGERS_BELOW, small, Move((small,), (ON,)))


class Houses(Raising):
    def test_one_to_three(self):
        for houses in ((small,), (small, plain), (small, small), (plain, flat, small), (small, small, small)):
            self.assertIs(Move(houses).houses, houses)

    def test_too_few_or_too_many(self):
        for houses in ((), (small,) * 4, (None,) * 4, (small,) * 1000):
            self.assert_index(InvalidHouses, None, Move, houses)

    def test_no_tuple_at_all(self):
        others = ([small], [small, plain], {0: small}, small, Move((small,)), 0, 1, 10 ** 40, str(Move((small,))))
        for houses in (*OTHER_KINDS, *TRUTHS, *STRINGS, *INTEGERS_BELOW, *others):
            if not isinstance(houses, tuple):
                self.assert_index(InvalidHouses, None, Move, houses)
                self.assert_index(InvalidHouses, None, Move, houses, (ON,))

    def test_first_wrong_one(self):
        self.assert_index(InvalidHouses, 0, Move, (None,))
        self.assert_index(InvalidHouses, 0, Move, (None, small, None))
        self.assert_index(InvalidHouses, 1, Move, (small, None, None))
        self.assert_index(InvalidHouses, 2, Move, (small, plain, None))

    def test_wrong_ones_of_each_kind(self):
        others = (0, 1, House, str(small), repr(small), (small,), [small], SMALL, Move((small,)), small.bases)
        for wrong in (*OTHER_KINDS, *TRUTHS, *STRINGS, *TUPLES_OF_INTEGERS, *INTEGERS_BELOW, *others):
            self.assert_index(InvalidHouses, 0, Move, (wrong,))
            self.assert_index(InvalidHouses, 1, Move, (small, wrong, wrong))
            self.assert_index(InvalidHouses, 2, Move, (small, plain, wrong))

    def test_looked_at_before_steps(self):
        self.assert_index(InvalidHouses, None, Move, [small], None)
        self.assert_index(InvalidHouses, None, Move, (), (None,))
        self.assert_index(InvalidHouses, 1, Move, (small, None), (("on", -1),))
        self.assert_index(InvalidHouses, 1, Move, (small, None), TOO_LONG)


class Steps(Raising):
    def test_none_to_eight(self):
        for many in range(9):
            steps = (ON,) * many
            move = Move((small,), steps)
            self.assertIs(move.steps, steps)
            self.assertEqual(len(move), many)

    def test_too_many(self):
        for steps in ((ON,) * 9, (None,) * 9, (ON,) * 8 + (None,), (ON,) * 1000):
            self.assert_index(InvalidSteps, None, Move, (small,), steps)

    def test_no_tuple_at_all(self):
        for steps in (*OTHER_KINDS, *TRUTHS, *STRINGS, *INTEGERS_BELOW, 0, 1, [ON], [], {0: ON}, {ON}, "on 2", small):
            if not isinstance(steps, tuple):
                self.assert_index(InvalidSteps, None, Move, (small,), steps)

    def test_one_step_alone_is_no_tuple_of_steps(self):
        self.assert_index(InvalidSteps, 0, Move, (small,), ON)

    def test_first_wrong_one(self):
        bad = ("on", -1)
        self.assert_index(InvalidSteps, 0, Move, (small,), (bad, bad))
        self.assert_index(InvalidSteps, 7, Move, (small,), (ON,) * 7 + (bad,))
        self.assert_index(InvalidSteps, 3, Move, (small,), (ON, ON, ON, bad, ON, bad))

    def test_looked_at_before_too_long(self):
        self.assert_too_long(Move, (small,), TOO_LONG)
        self.assert_index(InvalidSteps, 3, Move, (small,), TOO_LONG + (("on", -1),))
        self.assert_index(InvalidSteps, None, Move, (small,), TOO_LONG * 3)


class WithStep(Raising):
    def test_at_each_index(self):
        steps = (("on", 1), ("back", 2), ("to", 0))
        move = Move((small, plain), steps)
        for index in range(3):
            other = move.with_step(index, ("rate", 2, 3))
            self.assertIs(type(other), Move)
            self.assertEqual(other.steps, steps[:index] + (("rate", 2, 3),) + steps[index + 1:])
            self.assertEqual(other.houses, (small, plain))
            self.assertEqual(other.of(10), Move((small, plain), other.steps).of(10))
        self.assertEqual((move.steps, move.houses), (steps, (small, plain)))

    def test_no_index_of_a_step(self):
        for many in (0, 1, 3, 8):
            move = Move((small,), (ON,) * many)
            for given in (*NO_NUMBERS, many, many + 1, 10 ** 40):
                self.assert_given(InvalidNumber, given, move.with_step, given, ON)
            if many:
                self.assertEqual(move.with_step(many - 1, ("on", 3)).steps, (ON,) * (many - 1) + (("on", 3),))

    def test_number_ahead_of_step_ahead_of_too_long(self):
        move = Move((small,), (ON, *TOO_LONG[:2]))
        self.assert_given(InvalidNumber, 3, move.with_step, 3, None)
        self.assert_given(InvalidNumber, None, move.with_step, None, TOO_LONG[2])
        self.assert_given(InvalidNumber, -1, move.with_step, -1, TOO_LONG[2])
        step = ("rate", 1, 101)
        self.assert_given(InvalidStep, step, move.with_step, 0, step)
        self.assert_too_long(move.with_step, 0, TOO_LONG[2])

    def test_step_ahead_of_too_long_where_a_later_step_is_none(self):
        # With each of these steps, the rates behind would be too long, too.
        move = Move((plain, flat), (("on", 1), ("to", 1), ("rate", 1, 100), ("rate", 1, 60)))
        self.assert_too_long(move.with_step, 0, ("rate", 1, 7))
        for step in (("call", 1), ("rate", 1, 0), ("read", 1, "next")):
            self.assert_given(InvalidStep, step, move.with_step, 0, step)
        move = Move((plain, flat), (("on", 1), ("on", 1), ("to", 1), ("rate", 1, 60), ("rate", 1, 100)))
        step = ("call", 1)
        self.assert_given(InvalidStep, step, move.with_step, 1, step)
        self.assertEqual(move.with_step(2, step).end, flat)

    def test_a_later_step_that_is_none_any_more(self):
        move = Move((small, plain, flat), (("read", 1, "next"), ("to", 1)))
        for step in (("call", 2), ["call", 1], ("read", 2, "next"), ("read", 3, "next"), None, Agreeing(), nested(40)):
            self.assert_given(InvalidStep, step, move.with_step, 0, step)
        self.assertEqual(move.with_step(0, ("call", 1)).steps, (("call", 1), ("to", 1)))
        far = Move((small, plain, flat), (("on", 1), ("on", 2), ("call", 0), ("read", 1, "last"), ("call", 2), ("to", 0)))
        away = far.with_step(0, ("call", 2))
        self.assertEqual(away.end, flat)
        # The reading behind no longer begins in a house with the bases of house 1.
        for move, step in ((far, ("call", 2)), (away, ("on", 1))):
            self.assert_given(InvalidStep, step, move.with_step, 2, step)

    def test_other_kinds_of_steps(self):
        move = Move((small, plain), (ON, ON))
        for step in NO_NUMBERS + (["on", 2], ("on",), ("on", 2, 2), 5):
            for index in (0, 1):
                self.assert_given(InvalidStep, step, move.with_step, index, step)
        self.assertEqual(move, Move((small, plain), (ON, ON)))


class Then(Raising):
    def test_one_more(self):
        move = Move((small, plain))
        for many, step in enumerate((ON, ("read", 1, "last"), ("after", 1), ("call", 0), ("label", 3, "next"), ON, ON, ON)):
            longer = move.then(step)
            self.assertEqual((len(move), len(longer)), (many, many + 1))
            self.assertEqual(longer.steps, move.steps + (step,))
            self.assertEqual(longer.houses, (small, plain))
            move = longer

    def test_eight_already(self):
        full = Move((small,), (ON,) * 8)
        for step in (("on", 2), ("rate", 1, 1), None, ["on", 2], ("rate", 1, 100)):
            self.assert_given(InvalidStep, step, full.then, step)
        long = Move((small,), TOO_LONG[:2] + (ON,) * 6)
        step = ("rate", 1, 100)
        self.assert_given(InvalidStep, step, long.then, step)

    def test_no_step_there(self):
        move = Move((small, flat), (("call", 1),))
        self.assertEqual(move.then(("to", 0)).end, flat)
        for step in (*NO_NUMBERS, ("to", 1), ("read", 0, "next"), ["to", 0], ("to", True), ("on",), 7):
            self.assert_given(InvalidStep, step, move.then, step)
        self.assertEqual(move, Move((small, flat), (("call", 1),)))

    def test_step_ahead_of_too_long(self):
        move = Move((small,), TOO_LONG[:2])
        step = ("rate", 1, 0)
        self.assert_given(InvalidStep, step, move.then, step)
        self.assert_too_long(move.then, TOO_LONG[2])
        self.assertEqual(move.then(("rate", 1, 2)).steps, TOO_LONG[:2] + (("rate", 1, 2),))


class Parameters(Raising):
    def test_by_position_and_by_name(self):
        move = Move((small, plain), (ON,))
        for same in (Move(houses=(small, plain), steps=(ON,)), Move(steps=(ON,), houses=(small, plain))):
            self.assertEqual(same, move)
        self.assertEqual(Move((small, plain), steps=(ON,)), move)
        self.assertEqual(Move((small,)), Move((small,), ()))
        self.assertEqual(Move(houses=(small,)).steps, ())
        self.assertEqual(Move.read(text=str(move)), move)
        self.assertEqual(move.of(frame=7), move.of(7))
        self.assertEqual(move.with_step(index=0, step=("on", 3)), move.with_step(0, ("on", 3)))
        self.assertEqual(move.with_step(step=("on", 3), index=0), move.with_step(0, step=("on", 3)))
        self.assertEqual(move.then(step=("on", 3)), move.then(("on", 3)))

    def test_what_is_passed_stays_as_it_is(self):
        wrong = [["on", 2], [small], {"on": [2]}]
        kept = deepcopy(wrong)
        move = Move((small,), (ON,))
        for error, call in (
            (InvalidHouses, lambda: Move(wrong)), (InvalidHouses, lambda: Move((wrong,))), (InvalidSteps, lambda: Move((small,), wrong)),
            (InvalidSteps, lambda: Move((small,), (wrong,))), (InvalidText, lambda: Move.read(wrong)),
            (InvalidNumber, lambda: move.of(wrong)), (InvalidNumber, lambda: move.with_step(wrong, ON)),
            (InvalidStep, lambda: move.with_step(0, wrong)), (InvalidStep, lambda: move.then(wrong)),
        ):
            self.raised(error, call)
        self.assertEqual(wrong, kept)
        self.assertEqual((str(small), small.round), ("house 2 3\nskip 0 1 1", (2, 5)))

    def test_the_same_again_is_equal(self):
        for houses, steps in random_moves("again", 40):
            one, other = made(houses, steps), made(houses, steps)
            told = []
            for move in (one, other, one):
                told.append((move.houses, move.steps, move.end, move.first, move.round, str(move), repr(move), len(move)))
                told[-1] += tuple(move.of(frame) for frame in (0, 1, 2, 9, 10 ** 40, 3))
                if len(move) < 8:
                    move.then(ON)
            self.assertEqual(told[0], told[1])
            self.assertEqual(told[0], told[2])
            self.assertTrue(one == other)

    def test_frames_of_each_kind(self):
        for move in (Move((small,)), Move((small,), (("back", 7),)), Move((small,), (("rate", 2, 3), ("label", 4, "next")))):
            for given in NO_NUMBERS:
                self.assert_given(InvalidNumber, given, move.of, given)
            self.assertIsInstance(move.of(10 ** 60), int)

    def test_properties(self):
        move = Move((small, plain), (("read", 1, "next"),))
        for name in ("houses", "steps", "round"):
            self.assertIs(type(getattr(move, name)), tuple)
        for name in ("houses", "steps", "end", "first", "round"):
            self.assertIsInstance(vars(Move)[name], property)
            with self.assertRaises(AttributeError):
                setattr(move, name, ())

    def test_everything_stands_in_the_class_itself(self):
        for name in ("read", "houses", "steps", "end", "first", "round", "of", "with_step", "then", "__len__", "__str__", "__repr__"):
            self.assertIn(name, vars(Move))
        self.assertIsInstance(vars(Move)["read"], classmethod)
        self.assertEqual(Move.__module__, "labelmoves.moves")

    def test_end(self):
        houses = (small, plain, flat)
        for steps, end in (
            ((), 0), ((("on", 2),), 0), ((("read", 1, "next"),), 1), ((("read", 1, "next"), ("on", 2), ("to", 1)), 1),
            ((("read", 1, "last"), ("read", 0, "last")), 0), ((("call", 2),), 2), ((("call", 2), ("label", 2, "last")), 2),
            ((("call", 2), ("call", 1), ("rate", 2, 1)), 1), ((("read", 0, "next"),), 0), ((("call", 2), ("read", 2, "last")), 2),
        ):
            self.assertIs(Move(houses, steps).end, houses[end])


class Equality(Raising):
    def test_equal_if_the_texts_are(self):
        moves = [Move((small,)), Move((plain,)), Move((small, plain)), Move((plain, small)), Move((small, small))]
        moves += [Move((small,), steps) for steps in (
            (("on", 2),), (("on", 3),), (("back", 2),), (("on", 1), ("on", 1)), (("label", 2, "next"),),
            (("label", 2, "last"),), (("unlabel", 2, "next"),), (("to", 0),), (("to", 1),), (("rate", 2, 2),), (("rate", 1, 1),),
        )]
        for at, one in enumerate(moves):
            for beside, other in enumerate(moves):
                self.assertIs(one == other, at == beside)
                self.assertIs(one != other, at != beside)
            self.assertIs(one == Move(one.houses, one.steps), True)
            self.assertIs(one != Move(one.houses, one.steps), False)

    def test_alike_is_not_equal(self):
        self.assertFalse(Move((small,), (("on", 0),)) == Move((small,)))
        self.assertFalse(Move((small,)) == Move((small, small)))
        self.assertTrue(Move((House((2, 3)),)) != Move((House((2, 3), ((0, 1, 0),)),)))

    def test_other_classes_from_both_sides(self):
        for move in (Move((small,)), Move((small, plain), (ON,))):
            others = [None, 0, 1, 10 ** 60, True, False, str(move), repr(move), move.houses, move.steps, (move.houses, move.steps)]
            others += [[], {}, set(), object(), Move, House, b"move", len, nested(50), [move], small, plain, ()]
            for other in others:
                self.assertIs(move == other, False)
                self.assertIs(other == move, False)
                self.assertIs(move != other, True)
                self.assertIs(other != move, True)

    def test_equal_to_nothing_that_only_says_so(self):
        self.assertIs(Move((small,)) == Agreeing(), False)
        self.assertIs(Move((small,)) != Agreeing(), True)

    def test_true_unless_without_steps(self):
        self.assertIs(bool(Move((small,))), False)
        self.assertIs(bool(Move((small,), (("on", 0),))), True)

    def test_shown(self):
        self.assertEqual(repr(Move((small,))), "Move(1 houses, 0 steps)")
        self.assertEqual(repr(Move((small, plain), (ON,))), "Move(2 houses, 1 steps)")
        self.assertEqual(repr(Move((small, plain, flat), (ON,) * 8)), "Move(3 houses, 8 steps)")
