"""Telling houses from seen labels: [9]."""

import unittest
from collections import Counter
from random import Random

from plain_houses import DROP, HOUSES, plain_text
from plain_moves import FAMILIES, FAR, PLAIN, SMALL, plain_house
from raising import Raising
from wrong_values import INTEGERS_BELOW, OTHER_KINDS, STRINGS, TRUTHS, TUPLES_OF_INTEGERS

from labelmoves.errors import InvalidMenu, InvalidNumber, InvalidSeen
from labelmoves.houses import House
from labelmoves.moves import Move
from labelmoves.telling import best_look, fitting, told_surely

small, plain, drop = House(*SMALL), House(*PLAIN), House(*DROP)
MENU = (plain, small)
NO_NUMBERS = (*OTHER_KINDS, *TRUTHS, *STRINGS, *TUPLES_OF_INTEGERS, *INTEGERS_BELOW, small, Move((small,)))

# Houses with unlike bases, some of which give frames the same texts.
BESIDES = (
    *FAMILIES[0], *FAMILIES[1], *FAMILIES[2], ((3, 3), ()), ((3, 3), ((0, 1, 1),)), ((2, 10), ((1, 1, 1),)), ((2, 11), ()),
    ((10, 2), ()), ((11, 2), ()), ((11, 2), ((0, 2, 1),)), ((2, 2), ()), ((2,), ()), ((60, 60, 30), ()), DROP,
)


def text_of(house, frame):
    """The text of the label of the frame, written from the plain house."""
    return plain_text(house[0], plain_house(house).label(frame))


def made_menu(houses):
    return tuple(House(*house) for house in houses)


def near(random, text):
    """A text that is near to one."""
    at = random.randrange(len(text) + 1)
    changed = text[:at] + random.choice("0123456789: \n-x") + text[at + random.choice((0, 1)):]
    return random.choice((text, changed, "0" + text, text + "0", text + ":0", text[1:], text[:-1], text.replace("0", "", 1)))


def random_menu(random, most=20):
    return tuple(random.choice(BESIDES) for _ in range(random.randint(1, most)))


def random_seen(random, menu):
    """Pairs that mostly fit one of the houses."""
    house, seen = random.choice(menu), []
    for _ in range(random.choice((0, 1, 1, 2, 3, 5))):
        frame = random.choice((random.randrange(40), random.randrange(40), FAR + random.randrange(9)))
        text = text_of(house, frame)
        seen.append((frame, near(random, text) if random.random() < 0.3 else text))
    return tuple(seen)


class OneByOne(Raising):
    @classmethod
    def setUpClass(cls):
        random = Random("menus")
        cls.cases = []
        for _ in range(400):
            menu = random_menu(random)
            cls.cases.append((menu, random_seen(random, menu)))

    def test_fitting(self):
        sizes = Counter()
        for menu, seen in self.cases:
            fit = [index for index, house in enumerate(menu) if all(text_of(house, frame) == text for frame, text in seen)]
            told = fitting(made_menu(menu), seen)
            self.assertEqual(told, tuple(fit))
            self.assertIs(type(told), tuple)
            sizes[min(len(fit), 2), len(fit) == len(menu)] += 1
        self.assertGreater(sizes[0, False], 50)
        self.assertGreater(sizes[1, False], 20)
        self.assertGreater(sizes[2, False], 50)

    def test_in_any_order_and_more_than_once(self):
        random = Random("order")
        for menu, seen in self.cases:
            again = list(seen + seen[:2])
            random.shuffle(again)
            self.assertEqual(fitting(made_menu(menu), tuple(again)), fitting(made_menu(menu), seen))

    def test_told_surely(self):
        for menu, seen in self.cases:
            for frame in (0, 1, 7, 29, FAR, 10 ** 40):
                fit = [house for house in menu if all(text_of(house, at) == text for at, text in seen)]
                texts = sorted(dict.fromkeys(text_of(house, frame) for house in fit))
                told = told_surely(made_menu(menu), seen, frame)
                self.assertEqual(told, tuple(texts))
                self.assertIs(type(told), tuple)

    def test_best_look(self):
        random = Random("looks")
        for _ in range(60):
            houses = random_menu(random, most=7)
            menu = made_menu(houses)
            most = []
            for frame in range(130):
                most.append(max(Counter(text_of(house, frame) for house in houses).values()))
            for frame in (0, 1, 2, 3, 9, 30, 130):
                best = most[:frame].index(min(most[:frame])) if frame else None
                self.assertEqual(best_look(menu, frame), best)


class Fitting(Raising):
    def test_without_pairs_all_fit(self):
        self.assertEqual(fitting(MENU, ()), (0, 1))
        self.assertEqual(fitting((drop,), ()), (0,))
        self.assertEqual(fitting((small,) * 20, ()), tuple(range(20)))

    def test_texts_near_to_one(self):
        self.assertEqual(fitting((small,), ((0, "0:0:1"),)), (0,))
        for text in ("0:0:01", "0:00:1", "00:0:1", "0:0:1 ", " 0:0:1", "0:0:1\n", "0:0", "0:0:1:", ":0:0:1", "0:0:0", "0:1", "", "0,0,1", "+0:0:1"):
            self.assertEqual(fitting((small,), ((0, text),)), ())
        self.assertEqual(fitting((drop,), ((1800, "0:01:00:02"), (1799, "0:00:59:29"))), (0,))
        for text in ("0:1:0:2", "0:01:00:2", "00:01:00:02", "0:01:00:00", "0:01:00:01", "0:01:00:03"):
            self.assertEqual(fitting((drop,), ((1800, text),)), ())

    def test_unlike_bases(self):
        # The same label has another text where the greatest number has more figures.
        wide = House((2, 11))
        self.assertEqual(fitting((plain, wide), ((1, "0:0:1"),)), (0,))
        self.assertEqual(fitting((plain, wide), ((1, "0:0:01"),)), (1,))
        self.assertEqual(fitting((plain, House((3, 3)), House((3,))), ((1, "0:0:1"),)), (0, 1))
        self.assertEqual(fitting((plain, House((3, 3))), ((1, "0:0:1"), (6, "1:0:0"))), (0,))

    def test_two_texts_for_one_frame(self):
        self.assertEqual(fitting(MENU, ((0, "0:0:0"), (0, "0:0:1"))), ())

    def test_frames_of_forty_figures(self):
        frame = 5 * 10 ** 40
        self.assertEqual(fitting(MENU, ((frame, f"{10 ** 40}:0:1"),)), (1,))
        self.assertEqual(fitting(MENU, ((6 * 10 ** 40, f"{10 ** 40}:0:0"),)), (0,))

    def test_indexes_of_equal_houses(self):
        self.assertEqual(fitting((small, plain, small, House(*SMALL)), ((0, "0:0:1"),)), (0, 2, 3))


class Surely(Raising):
    def test_each_text_once(self):
        self.assertEqual(told_surely((small, House(*SMALL), small), (), 0), ("0:0:1",))
        self.assertEqual(told_surely((small, plain, small), (), 0), ("0:0:0", "0:0:1"))

    def test_ascending_as_strings(self):
        # As labels they would stand the other way round.
        menu = (House((2, 2)), House((60, 2)))
        self.assertEqual(told_surely(menu, (), 45), ("0:22:1", "11:0:1"))
        menu = (House((2,)), House((5,)))
        self.assertEqual(told_surely(menu, (), 45), ("22:1", "9:0"))

    def test_none_if_no_house_fits(self):
        self.assertEqual(told_surely(MENU, ((0, "x"),), 0), ())
        self.assertEqual(told_surely(MENU, ((0, "0:0:1"), (0, "0:0:0")), 5), ())

    def test_houses_that_fit_alone_count(self):
        self.assertEqual(told_surely(MENU, ((0, "0:0:1"),), 5), ("1:0:1",))
        self.assertEqual(told_surely(MENU, ((0, "0:0:0"),), 5), ("0:1:2",))


class Looks(Raising):
    def test_none_for_frame_0(self):
        for menu in (MENU, (small,), (small,) * 20):
            self.assertIsNone(best_look(menu, 0))
            self.assertEqual(best_look(menu, 1), 0)

    def test_one_house_or_equal_ones(self):
        for menu in ((small,), (small, House(*SMALL)), (drop,) * 20):
            self.assertEqual(best_look(menu, 300), 0)

    def test_a_frame_far_out_that_parts_better(self):
        # The second one skips a label at each odd number 0, the third one also at number 2: until then they are alike.
        menu = (House((60, 60)), House((60, 60), ((0, 1, 1), (0, 2, 0))), House((60, 60), ((0, 1, 1), (0, 4, 0))))
        self.assertEqual([house.written(3600) for house in menu], ["1:00:00", "1:00:01", "1:00:01"])
        self.assertEqual([house.written(7199) for house in menu], ["1:59:59", "2:00:00", "2:00:01"])
        told = [best_look(menu, frame) for frame in (1, 3600, 3601, 7199, 7200, 10000)]
        self.assertEqual(told, [0, 0, 3600, 3600, 7199, 7199])
        self.assertEqual(told[1:], self.one_by_one(menu, (3600, 3601, 7199, 7200, 10000)))

    def test_the_last_frame_below(self):
        # Neither skips a label until number 0 is 1.
        menu = (House((60, 60)), House((60, 60), ((0, 1, 1), (0, 2, 0))))
        self.assertEqual(best_look(menu, 3600), 0)
        self.assertEqual([house.written(3599) for house in menu], ["0:59:59"] * 2)
        self.assertEqual([house.written(3600) for house in menu], ["1:00:00", "1:00:01"])
        self.assertEqual(best_look(menu, 3601), 3600)
        self.assertEqual(best_look(menu, 10000), 3600)

    def test_the_most_for_one_text_counts(self):
        menu = (plain, small, House((2, 3), ((0, 2, 1),)), House((2, 3), ((1, 1, 1),)))
        self.assertEqual([best_look(menu, frame) for frame in (1, 2, 3, 5, 6, 20)], self.one_by_one(menu, (1, 2, 3, 5, 6, 20)))
        self.assertEqual(best_look(menu, 20), 5)

    def one_by_one(self, menu, frames):
        most = [max(Counter(house.written(frame) for house in menu).values()) for frame in range(max(frames))]
        return [most[:frame].index(min(most[:frame])) for frame in frames]


class Errors(Raising):
    CALLS = ((fitting, ((),)), (told_surely, ((), 0)), (best_look, (5,)))

    def test_no_tuple_of_houses_or_too_few_or_too_many(self):
        others = ([small], {0: small}, small, 0, 1, *TRUTHS, *STRINGS, *OTHER_KINDS, (), (small,) * 21, (None,) * 21)
        for menu in others:
            if not isinstance(menu, tuple) or len(menu) in (0, 21):
                for call, rest in self.CALLS:
                    self.assert_index(InvalidMenu, None, call, menu, *rest)

    def test_first_wrong_house(self):
        for call, rest in self.CALLS:
            self.assert_index(InvalidMenu, 0, call, (None, small, None), *rest)
            self.assert_index(InvalidMenu, 2, call, (small, plain, None, None), *rest)
            self.assert_index(InvalidMenu, 19, call, (small,) * 19 + (None,), *rest)
            call((small,) * 20, *rest)

    def test_wrong_houses_of_each_kind(self):
        others = (0, 1, House, str(small), (small,), [small], SMALL, Move((small,)))
        for wrong in (*OTHER_KINDS, *TRUTHS, *STRINGS, *TUPLES_OF_INTEGERS, *INTEGERS_BELOW, *others):
            for call, rest in self.CALLS:
                self.assert_index(InvalidMenu, 1, call, (small, wrong, wrong), *rest)

    def test_no_tuple_of_pairs(self):
        for seen in ([], [(0, "0:0:1")], {}, {0: "0:0:1"}, "0:0:1", 0, 1, *TRUTHS, *STRINGS, *OTHER_KINDS):
            if not isinstance(seen, tuple):
                self.assert_index(InvalidSeen, None, fitting, MENU, seen)
                self.assert_index(InvalidSeen, None, told_surely, MENU, seen, 0)

    def test_first_wrong_pair(self):
        pair = (0, "0:0:1")
        self.assert_index(InvalidSeen, 0, fitting, MENU, pair)
        for index in (0, 1, 2, 25):
            seen = (pair,) * index + ((0,), pair, None)
            self.assert_index(InvalidSeen, index, fitting, MENU, seen)
            self.assert_index(InvalidSeen, index, told_surely, MENU, seen, 0)
        # There may be any number of pairs.
        self.assertEqual(fitting(MENU, (pair,) * 500), (1,))

    def test_wrong_pairs_of_each_kind(self):
        pair = (0, "0:0:1")
        for wrong in (*NO_NUMBERS, 0, list(pair), (0, "0:0:1", 0), ("0:0:1", 0), ((0, "0:0:1"),), (0,)):
            self.assert_index(InvalidSeen, 1, fitting, MENU, (pair, wrong, wrong))
        for wrong in NO_NUMBERS:
            self.assert_index(InvalidSeen, 0, fitting, MENU, ((wrong, "0:0:1"),))
            if not isinstance(wrong, str):
                self.assert_index(InvalidSeen, 0, fitting, MENU, ((0, wrong),))
        for text in STRINGS:
            self.assertEqual(fitting(MENU, ((0, text),)), ())

    def test_no_frame(self):
        for given in NO_NUMBERS:
            self.assert_given(InvalidNumber, given, told_surely, MENU, (), given)
            self.assert_given(InvalidNumber, given, best_look, MENU, given)
        self.assertEqual(told_surely(MENU, ((0, "0:0:1"),), 5 * 10 ** 40), (f"{10 ** 40}:0:1",))

    def test_looks_up_to_ten_thousand(self):
        self.assertEqual(best_look(MENU, 10000), 0)
        for given in (10001, 10002, 10 ** 40, 10 ** 60):
            self.assert_given(InvalidNumber, given, best_look, MENU, given)

    def test_menu_ahead_of_seen_ahead_of_frame(self):
        wrong = object()
        self.assert_index(InvalidMenu, None, fitting, wrong, wrong)
        self.assert_index(InvalidMenu, 1, told_surely, (small, wrong), wrong, wrong)
        self.assert_index(InvalidSeen, None, told_surely, MENU, wrong, wrong)
        self.assert_index(InvalidSeen, 1, told_surely, MENU, ((0, ""), wrong), wrong)
        self.assert_given(InvalidNumber, wrong, told_surely, MENU, ((0, ""),), wrong)
        self.assert_index(InvalidMenu, None, best_look, wrong, wrong)
        self.assert_given(InvalidNumber, wrong, best_look, MENU, wrong)

    def test_by_position_and_by_name(self):
        seen = ((0, "0:0:1"),)
        self.assertEqual(fitting(seen=seen, menu=MENU), fitting(MENU, seen))
        self.assertEqual(told_surely(frame=5, seen=seen, menu=MENU), told_surely(MENU, seen, 5))
        self.assertEqual(told_surely(MENU, seen, frame=5), ("1:0:1",))
        self.assertEqual(best_look(frame=9, menu=MENU), best_look(MENU, 9))

    def test_the_same_again_is_equal(self):
        seen = ((0, "0:0:1"),)
        told = [(fitting(MENU, seen), told_surely(MENU, seen, 9), best_look(MENU, 99)) for _ in range(2)]
        self.assertEqual(told[0], told[1])
        self.assertEqual((MENU, seen), ((House(*PLAIN), House(*SMALL)), ((0, "0:0:1"),)))


class Houses(unittest.TestCase):
    def test_each_house_fits_its_own_labels(self):
        menu = made_menu(HOUSES)
        for index, house in enumerate(HOUSES):
            seen = tuple((frame, text_of(house, frame)) for frame in (0, 1, 2, 99, FAR, FAR + 1, 10 ** 40))
            self.assertIn(index, fitting(menu, seen))


if __name__ == "__main__":
    unittest.main()
