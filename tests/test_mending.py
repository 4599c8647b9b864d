"""Which exchanges of steps mend a move: [16], [2] (Mends)."""

import unittest
from collections import Counter
from itertools import chain, combinations
from random import Random

from plain_moves import FAR, SMALL, made, plain_through, random_moves, random_step
from plain_wishes import shows, written
from raising import Raising
from test_shown import NO_TEXTS, move, text
from wrong_values import INTEGERS_BELOW, OTHER_KINDS, STRINGS, TRUTHS, TUPLES_OF_INTEGERS, Agreeing, Refusing, nested

from labelmoves.errors import InvalidExchanges, InvalidSteps, InvalidWishes, NotAMove, TooLong
from labelmoves.houses import House
from labelmoves.mends import mending, shown_against
from labelmoves.moves import Move

small, flat = House(*SMALL), House((3,))
NO_NUMBERS = (*OTHER_KINDS, *TRUTHS, *STRINGS, *TUPLES_OF_INTEGERS, *INTEGERS_BELOW, small, Move((small,)))
DOWN = ("rate", 1, 100)


def all_lots(exchanges):
    """All lots of exchanges of steps at different indexes."""
    numbers = range(len(exchanges))
    for lot in chain.from_iterable(combinations(numbers, many) for many in range(len(exchanges) + 1)):
        indexes = [exchanges[at][0] for at in lot]
        if len(set(indexes)) == len(indexes):
            yield lot


def with_lot(steps, exchanges, lot):
    """The steps with these exchanges."""
    new = {exchanges[at][0]: exchanges[at][1] for at in lot}
    return tuple(new.get(index, step) for index, step in enumerate(steps))


def mends(houses, steps, wishes):
    """Whether such a move exists, and all wishes can be asked and hold for it, told by the program."""
    try:
        other = Move(houses, steps)
        return all([shown_against(other, wish) is None for wish in wishes])
    except (InvalidSteps, TooLong):
        return False


def least_lots(told, exchanges, mending_lot):
    """The lots that mend, without those in which a smaller one does, in their order."""
    lots = [lot for lot in all_lots(exchanges) if mending_lot(with_lot(told, exchanges, lot))]
    least = [lot for lot in lots if not any(set(other) < set(lot) for other in lots)]
    return tuple(sorted(least, key=lambda lot: (len(lot), lot)))


def random_exchanges(random, houses, steps):
    """Exchanges of some steps, of which some are none where they stand."""
    exchanges = []
    for _ in range(random.randint(0, 6)):
        index = random.randrange(len(steps))
        step = random.choice((
            steps[index], random_step(random, houses, random.randrange(len(houses)), 9), random_step(random, houses, 0, 3),
            ("on", random.randrange(3)), ("back", random.randrange(3)), ("call", 0), DOWN, ("rate", 1, 101), ("on",), (),
        ))
        exchanges.append((index, step))
    return tuple(exchanges)


def random_goals(random, houses, steps, exchanges):
    """Wishes, mostly ones that some lot keeps."""
    lots = list(all_lots(exchanges))
    goal = houses, with_lot(steps, exchanges, random.choice(lots))
    try:
        made(*goal)
    except (InvalidSteps, TooLong):
        goal = houses, steps
    wishes = (
        ("alike", goal), ("later", goal), ("within", goal, 0, random.randrange(4)), ("within", goal, -1, 1),
        ("stretch", 5, 0, 6), ("full",), ("single",), ("alike", (houses, (("back", 2), ("on", 2)))),
    )
    return tuple(random.choice(wishes) for _ in range(random.choice((0, 1, 1, 1, 2, 3))))


class OneByOne(Raising):
    @classmethod
    def setUpClass(cls):
        random = Random("mends")
        cls.cases = []
        for houses, steps in random_moves("mends", 800, most=5):
            if steps:
                exchanges = random_exchanges(random, houses, steps)
                wishes = random_goals(random, houses, steps, exchanges)
                told = mending(made(houses, steps), exchanges, tuple(map(written, wishes)))
                cls.cases.append((houses, steps, exchanges, wishes, told))

    def test_all_least_lots(self):
        seen = Counter()
        for houses, steps, exchanges, wishes, told in self.cases:
            asked = tuple(map(written, wishes))
            programs = made(houses, steps).houses
            self.assertEqual(told, least_lots(steps, exchanges, lambda new: mends(programs, new, asked)))
            seen[len(told), max(map(len, told), default=None)] += 1
        self.assertGreater(seen[0, None], 20)
        self.assertGreater(seen[1, 0], 20)
        self.assertGreater(seen[1, 1], 10)
        self.assertGreater(sum(many for (lots, _), many in seen.items() if lots > 1), 10)
        self.assertGreater(sum(many for (_, most), many in seen.items() if most and most > 1), 5)

    def test_wishes_frame_by_frame(self):
        """What is told mends by the words of the document, at least for some rounds."""
        for houses, steps, exchanges, wishes, told in self.cases:
            for lot in told:
                new = houses, with_lot(steps, exchanges, lot)
                rounds = plain_through(new)
                for wish in wishes:
                    self.assertFalse([frame for frame in range(2 * min(rounds, 40) + 5) if shows(new, wish, frame)])

    def test_kinds(self):
        for *_, told in self.cases:
            self.assertIs(type(told), tuple)
            for lot in told:
                self.assertIs(type(lot), tuple)
                self.assertEqual([type(index) for index in lot], [int] * len(lot))
                self.assertEqual(list(lot), sorted(set(lot)))


class Lots(Raising):
    label = move(("label", 2, "next"), ("on", 0))
    goal = text(("on", 3))

    def test_the_empty_lot(self):
        exchanges = ((0, ("on", 2)), (1, ("on", 1)))
        self.assertEqual(mending(self.label, exchanges, ()), ((),))
        self.assertEqual(mending(self.label, (), ()), ((),))
        self.assertEqual(mending(self.label, exchanges, (("alike", str(self.label)),)), ((),))
        self.assertEqual(mending(Move((small,)), (), ()), ((),))

    def test_no_lot_at_all(self):
        self.assertEqual(mending(self.label, (), (("alike", self.goal),)), ())
        self.assertEqual(mending(self.label, ((0, ("on", 2)),), (("alike", self.goal),)), ())
        self.assertEqual(mending(self.label, ((0, ("on", 3)),), (("alike", self.goal), ("stretch", 1, 2, 2))), ())

    def test_ordered_by_length_then_as_tuples(self):
        exchanges = ((0, ("on", 2)), (1, ("on", 1)), (0, ("on", 3)), (1, ("on", 1)), (0, ("on", 1)), (1, ("on", 2)))
        told = mending(self.label, exchanges, (("alike", self.goal),))
        self.assertEqual(told, ((2,), (0, 1), (0, 3), (4, 5)))

    def test_six_exchanges_of_one_step(self):
        exchanges = tuple((0, ("on", amount)) for amount in (3, 2, 3, 4, 3, 3))
        self.assertEqual(mending(self.label, exchanges, (("alike", self.goal),)), ((0,), (2,), (4,), (5,)))
        # No two of them stand together, so the step behind stays as it is.
        self.assertEqual(mending(self.label, exchanges, (("alike", text(("on", 5))),)), ())

    def test_six_exchanges_of_six_steps(self):
        ons = move(*[("on", 1)] * 6)
        exchanges = tuple((index, ("on", 2 ** index)) for index in (5, 4, 3, 2, 1, 0))
        # On by 63 only with all of them; the exchange of step 0 alone changes nothing.
        self.assertEqual(mending(ons, exchanges, (("alike", text(("on", 63))),)), ((0, 1, 2, 3, 4),))
        self.assertEqual(mending(ons, exchanges, (("later", text(("on", 60))),)), ((0, 1, 2, 3), (0, 1, 2, 4)))
        self.assertEqual(mending(ons, exchanges, (("later", text(("on", 17))),)), ((0,), (1,), (2, 3, 4)))

    def test_only_all_of_them_together(self):
        # The first exchange alone leads into a house in which the second step is none, and the other way round.
        there = Move((small, flat), (("on", 1), ("to", 1)))
        exchanges = ((0, ("call", 1)), (1, ("to", 0)))
        goal = str(Move((small, flat), (("call", 1), ("to", 0))))
        self.assertEqual(mending(there, exchanges, (("alike", goal),)), ((0, 1),))
        back = Move((small, flat), (("call", 1), ("to", 0)))
        self.assertEqual(mending(back, ((1, ("to", 1)), (0, ("on", 1))), (("alike", str(there)),)), ((0, 1),))

    def test_moves_that_do_not_exist(self):
        for step in (("on", -1), ("to", 2), ("read", 1, "next"), ("on",), (), (None,), nested(40), (Refusing(), Agreeing()), ("on", True)):
            exchanges = ((0, step), (1, ("on", 1)))
            self.assertEqual(mending(self.label, exchanges, (("alike", text(("label", 2, "next"), ("on", 1))),)), ((1,),))
            self.assertEqual(mending(self.label, ((0, step),), (("alike", self.goal),)), ())

    def test_moves_that_are_too_long(self):
        rates = move(DOWN, DOWN, ("rate", 1, 2), ("rate", 1, 1))
        # With each of these alone it is too long.
        exchanges = ((2, ("rate", 1, 3)), (0, ("rate", 1, 1)), (3, ("rate", 1, 7)))
        goal = text(("rate", 1, 100), ("rate", 1, 3))
        self.assertEqual(mending(rates, exchanges, (("alike", goal),)), ((0, 1),))
        self.assertEqual(mending(rates, exchanges[:1], (("alike", goal),)), ())
        self.assertEqual(mending(rates, exchanges[:1], ()), ((),))

    def test_wishes_that_would_take_too_long(self):
        # With the steps as they are, the goal cannot be asked at all.
        rates, goal = move(DOWN, DOWN), text(("rate", 1, 3))
        self.assert_too_long(shown_against, rates, ("later", goal))
        self.assertEqual(mending(rates, (), (("later", goal),)), ())
        exchanges = ((0, ("rate", 1, 1)), (1, ("on", 1)), (1, ("rate", 1, 3)))
        self.assertEqual(mending(rates, exchanges, (("later", goal),)), ((0, 1), (0, 2)))
        self.assertEqual(mending(rates, exchanges, (("alike", goal),)), ((0, 2),))

    def test_all_wishes_hold(self):
        exchanges = ((0, ("on", 3)), (0, ("on", 4)), (1, ("rate", 2, 1)))
        wishes = (("later", self.goal), ("single",), ("full",))
        self.assertEqual(mending(self.label, exchanges, wishes), ((0,), (1,)))
        self.assertEqual(mending(self.label, exchanges, wishes[:1]), ((0,), (1,), (2,)))
        self.assertEqual(mending(self.label, exchanges, wishes * 7), ((0,), (1,)))
        self.assertEqual(mending(self.label, exchanges, (*wishes, ("stretch", 1, 2, 2))), ())

    def test_a_lot_with_one_that_mends_already_is_no_least_one(self):
        exchanges = ((0, ("on", 3)), (1, ("on", 0)), (1, ("call", 0)))
        self.assertEqual(mending(self.label, exchanges, (("alike", self.goal),)), ((0,),))
        # Wishes may be broken by more exchanges, which does not matter.
        self.assertEqual(mending(self.label, ((0, ("on", 3)), (1, ("on", 9))), (("alike", self.goal),)), ((0,),))


class Errors(Raising):
    label = move(("label", 2, "next"), ("on", 0))
    goal = text(("on", 3))

    def test_no_moves(self):
        for given in (*NO_NUMBERS[:-1], 0, 1, str(self.label), [self.label], Move):
            self.assert_given(NotAMove, given, mending, given, (), ())

    def test_no_tuple_of_exchanges_or_too_many(self):
        exchange = (0, ("on", 1))
        for exchanges in ([], [exchange], {0: ("on", 1)}, 0, 1, *TRUTHS, *STRINGS, *OTHER_KINDS, (exchange,) * 7, (None,) * 7):
            if not isinstance(exchanges, tuple) or len(exchanges) == 7:
                self.assert_index(InvalidExchanges, None, mending, self.label, exchanges, ())
        self.assertEqual(mending(self.label, (exchange,) * 6, ()), ((),))

    def test_first_wrong_exchange(self):
        exchange = (0, ("on", 1))
        self.assert_index(InvalidExchanges, 0, mending, self.label, exchange, ())
        for index in range(6):
            exchanges = ((exchange,) * index + (None, exchange, None))[:6]
            self.assert_index(InvalidExchanges, index, mending, self.label, exchanges, ())

    def test_wrong_exchanges_of_each_kind(self):
        exchange = (0, ("on", 1))
        for wrong in (*NO_NUMBERS, 0, list(exchange), (0,), (0, ("on", 1), 0), (("on", 1), 0), ("on", 1), (0, "on", 1)):
            self.assert_index(InvalidExchanges, 1, mending, self.label, (exchange, wrong, wrong), ())

    def test_indexes_of_no_step(self):
        for wrong in (*NO_NUMBERS, 2, 3, 10 ** 40):
            self.assert_index(InvalidExchanges, 0, mending, self.label, ((wrong, ("on", 1)),), ())
        self.assert_index(InvalidExchanges, 0, mending, Move((small,)), ((0, ("on", 1)),), ())

    def test_steps_that_are_no_tuples(self):
        for wrong in (*NO_NUMBERS, 0, ["on", 1], "on 1"):
            if not isinstance(wrong, tuple):
                self.assert_index(InvalidExchanges, 0, mending, self.label, ((0, wrong),), ())

    def test_no_tuple_of_wishes(self):
        for wishes in ([], [("full",)], {("full",): 1}, "full", 0, 1, *TRUTHS, *STRINGS, *OTHER_KINDS):
            if not isinstance(wishes, tuple):
                self.assert_index(InvalidWishes, None, mending, self.label, (), wishes)

    def test_first_wrong_wish(self):
        self.assert_index(InvalidWishes, 0, mending, self.label, (), ("full",))
        for index in (0, 1, 2, 30):
            self.assert_index(InvalidWishes, index, mending, self.label, (), (("full",),) * index + (None, ("full",), None))

    def test_wrong_wishes_of_each_kind(self):
        others = (0, ("full", 0), ["full"], ("stretch", -1, 0, 0), ("within", self.goal, 0), ("alike", None), ("unlike", self.goal))
        for wrong in (*NO_NUMBERS, *others, *[("alike", wrong) for wrong in NO_TEXTS]):
            self.assert_index(InvalidWishes, 1, mending, self.label, (), (("full",), wrong, wrong))

    def test_move_ahead_of_exchanges_ahead_of_wishes(self):
        wrong = object()
        self.assert_given(NotAMove, wrong, mending, wrong, wrong, wrong)
        self.assert_index(InvalidExchanges, None, mending, self.label, wrong, wrong)
        self.assert_index(InvalidExchanges, 0, mending, self.label, (wrong,), wrong)
        self.assert_index(InvalidWishes, None, mending, self.label, ((0, ()),), wrong)
        self.assert_index(InvalidWishes, 0, mending, self.label, ((0, ()),), (wrong,))

    def test_never_too_long(self):
        rates, goal = move(DOWN, DOWN), text(("rate", 1, 3))
        self.assertEqual(mending(rates, (), (("alike", goal), ("later", goal), ("within", goal, -FAR, FAR))), ())

    def test_by_position_and_by_name(self):
        exchanges, wishes = ((0, ("on", 3)),), (("alike", self.goal),)
        self.assertEqual(mending(wishes=wishes, exchanges=exchanges, move=self.label), ((0,),))
        self.assertEqual(mending(self.label, exchanges, wishes=wishes), mending(self.label, exchanges, wishes))

    def test_nothing_changes(self):
        exchanges, wishes = ((0, ("on", 3)), (1, ("on", 1))), (("later", self.goal),)
        told = [mending(self.label, exchanges, wishes) for _ in range(2)]
        self.assertEqual(told[0], told[1])
        self.assertEqual((exchanges, wishes), (((0, ("on", 3)), (1, ("on", 1))), (("later", self.goal),)))
        self.assertEqual(self.label, move(("label", 2, "next"), ("on", 0)))


if __name__ == "__main__":
    unittest.main()
