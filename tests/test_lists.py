"""Lists of clips: [15]."""

import unittest
from random import Random

from plain_houses import DROP
from plain_moves import FAR, PLAIN, SMALL, made, plain_first, plain_value, random_moves
from raising import Raising
from wrong_values import INTEGERS_BELOW, OTHER_KINDS, STRINGS, TRUTHS, TUPLES_OF_INTEGERS, Agreeing, Refusing

from labelmoves.errors import InvalidClips, InvalidNumber, Lost, NotAHouse, NotAMove
from labelmoves.houses import House
from labelmoves.lists import Cutlist
from labelmoves.moves import Move

small, plain, drop = House(*SMALL), House(*PLAIN), House(*DROP)
twin = House(*SMALL)
ON = Move((small,), (("on", 2),))

NO_NUMBERS = (*OTHER_KINDS, *TRUTHS, *STRINGS, *TUPLES_OF_INTEGERS, *INTEGERS_BELOW, small, ON)

# Houses that are equal to the one of the program, or not.
TAPES = (SMALL, PLAIN, ((2, 3), ((0, 1, 1), (0, 1, 1))))


def random_clips(random, most=20):
    """Clips that often go on, sometimes a frame too early or too late, or on another tape."""
    clips = []
    for _ in range(random.randint(0, most)):
        house, frame = random.choice(TAPES), random.randrange(30)
        if clips and random.random() < 0.7:
            house, frame = clips[-1][0], max(0, clips[-1][1] + clips[-1][2] + random.choice((0, 0, 0, 0, -1, 1)))
        if random.random() < 0.1:
            house = random.choice(TAPES)
        clips.append((house, frame, random.randint(1, 5)))
    return tuple(clips)


def cut(clips, frame=3, house=small):
    """The list of the program, with a new house for each clip."""
    return Cutlist(house, frame, tuple((House(*tape), start, many) for tape, start, many in clips))


def shown(clips, frame):
    """For each frame shown: the clip's index, its house, the frame of the tape, the frame of the record."""
    told = []
    for index, (house, start, many) in enumerate(clips):
        for at in range(many):
            told.append((index, house, start + at, frame + len(told)))
    return told


def goes_on(clips, at):
    """Whether the tape goes on to the clip with this index, told by their frames."""
    house, start, many = clips[at - 1]
    return house == clips[at][0] and list(range(start, start + many + 1))[-1] == clips[at][1]


class OneByOne(Raising):
    @classmethod
    def setUpClass(cls):
        random = Random("clips")
        cls.cases = [(random_clips(random), random.choice((0, 3, FAR))) for _ in range(300)]

    def test_total_and_starts(self):
        for clips, frame in self.cases:
            record, frames = cut(clips, frame), shown(clips, frame)
            self.assertEqual(record.total, len(frames))
            starts = tuple(next(told[3] for told in frames if told[0] == index) for index in range(len(clips)))
            self.assertEqual(record.starts, starts)
            self.assertIs(type(record.starts), tuple)
            self.assertEqual((record.record_frame, record.house), (frame, small))

    def test_look(self):
        for clips, frame in self.cases:
            record = cut(clips, frame)
            for number, (index, _, tape, place) in enumerate(shown(clips, frame)):
                self.assertEqual(record.look(number), (index, tape, place))
                self.assertIs(type(record.look(number)), tuple)
            self.assert_given(InvalidNumber, record.total, record.look, record.total)

    def test_joins(self):
        some = 0
        for clips, frame in self.cases:
            joins = tuple(at for at in range(1, len(clips)) if goes_on(clips, at))
            self.assertEqual(cut(clips, frame).joins, joins)
            self.assertIs(type(cut(clips, frame).joins), tuple)
            some += 0 < len(joins) < len(clips) - 1
        self.assertGreater(some, 100)

    def test_joined(self):
        for clips, frame in self.cases:
            record = cut(clips, frame)
            joined = record.joined()
            self.assertIs(type(joined), Cutlist)
            self.assertEqual(joined.joins, ())
            self.assertEqual(len(joined.clips), len(clips) - len(record.joins))
            self.assertEqual((joined.house, joined.record_frame, joined.total), (small, frame, record.total))
            for number, (_, house, tape, place) in enumerate(shown(clips, frame)):
                index, *frames = joined.look(number)
                self.assertEqual(frames, [tape, place])
                self.assertEqual(joined.clips[index][0], House(*house))
            self.assertEqual(record, cut(clips, frame))
            self.assertEqual(joined.joined(), joined)

    def test_moved(self):
        moves = random_moves("moved", 60, most=4)
        random = Random("moving")
        without = 0
        for clips, frame in self.cases:
            if not clips:
                continue
            record, index, move = cut(clips, frame), random.randrange(len(clips)), random.choice(moves)
            _, start, many = clips[index]
            if start < plain_first(*move):
                self.assertEqual(self.raised(Lost, record.moved, index, made(*move)).given, start)
                continue
            told, behind = plain_value(*move, start), plain_value(*move, start + many)
            moved = record.moved(index, made(*move))
            new = ((made(*move).end, told, behind - told),) if behind > told else ()
            without += behind == told
            self.assertEqual(moved.clips, record.clips[:index] + new + record.clips[index + 1:])
            self.assertEqual((moved.house, moved.record_frame), (small, frame))
            self.assertEqual(moved, Cutlist(small, frame, moved.clips))
            self.assertEqual(record, cut(clips, frame))
        self.assertGreater(without, 5)


class Looking(Raising):
    record = Cutlist(plain, 10, ((small, 0, 4), (twin, 4, 1), (plain, 5, 3), (plain, 9, 1)))

    def test_at_the_ends_of_clips(self):
        self.assertEqual(self.record.starts, (10, 14, 15, 18))
        self.assertEqual(self.record.total, 9)
        told = [self.record.look(number) for number in (0, 3, 4, 5, 7, 8)]
        self.assertEqual(told, [(0, 0, 10), (0, 3, 13), (1, 4, 14), (2, 5, 15), (2, 7, 17), (3, 9, 18)])

    def test_no_such_number(self):
        for given in (9, 10, 10 ** 40, 10 ** 60, *NO_NUMBERS):
            self.assert_given(InvalidNumber, given, self.record.look, given)
        for given in (0, 1, -1, False, None):
            self.assert_given(InvalidNumber, given, Cutlist(small, 5).look, given)

    def test_without_clips(self):
        for empty in (Cutlist(small, 5), Cutlist(small, 5, ())):
            self.assertEqual((empty.clips, empty.starts, empty.total, empty.joins), ((), (), 0, ()))
            self.assertEqual((empty.house, empty.record_frame), (small, 5))
            self.assertEqual(empty.joined(), empty)
            self.assertIs(bool(empty), True)

    def test_twenty_clips(self):
        full = Cutlist(small, 0, tuple((twin if at % 2 else small, at * FAR, FAR) for at in range(20)))
        self.assertEqual(full.starts, tuple(at * FAR for at in range(20)))
        self.assertEqual(full.joins, tuple(range(1, 20)))
        self.assertEqual(full.joined().clips, ((small, 0, 20 * FAR),))
        self.assertEqual(full.look(20 * FAR - 1), (19, 20 * FAR - 1, 20 * FAR - 1))
        self.assertEqual(full.look(7 * FAR), (7, 7 * FAR, 7 * FAR))
        self.assertEqual(full.look(7 * FAR - 1), (6, 7 * FAR - 1, 7 * FAR - 1))
        behind = full.total
        self.assert_given(InvalidNumber, behind, full.look, behind)

    def test_frames_of_forty_figures(self):
        most = 10 ** 40
        record = Cutlist(small, most, ((small, most, most), (small, 2 * most, 1), (small, 2 * most + 2, 1)))
        self.assertEqual((record.starts, record.total, record.joins), ((most, 2 * most, 2 * most + 1), most + 2, (1,)))
        self.assertEqual(record.look(most + 1), (2, 2 * most + 2, 2 * most + 1))


class Joining(Raising):
    def test_equal_houses_that_are_not_the_same(self):
        self.assertIsNot(small, twin)
        self.assertEqual(Cutlist(plain, 0, ((small, 0, 4), (twin, 4, 1))).joins, (1,))
        self.assertEqual(Cutlist(plain, 0, ((small, 0, 4), (twin, 4, 1))).joined().clips, ((small, 0, 5),))

    def test_houses_with_the_same_labels_but_another_text(self):
        # Houses are equal if their texts are.
        again = House((2, 3), ((0, 1, 1), (0, 1, 1)))
        self.assertEqual(Cutlist(plain, 0, ((small, 0, 4), (again, 4, 1))).joins, ())

    def test_a_frame_too_early_or_too_late(self):
        for frame, joins in ((3, ()), (4, (1,)), (5, ()), (0, ()), (FAR, ())):
            record = Cutlist(small, 0, ((small, 0, 4), (small, frame, 1)))
            self.assertEqual(record.joins, joins)
            self.assertEqual(len(record.joined().clips), 2 - len(joins))

    def test_back_and_forth(self):
        # The tape goes on to the second clip only, the third one goes back to the first.
        record = Cutlist(small, 0, ((small, 4, 3), (small, 7, 2), (small, 1, 3), (small, 4, 1)))
        self.assertEqual(record.joins, (1, 3))
        self.assertEqual(record.joined().clips, ((small, 4, 5), (small, 1, 4)))

    def test_the_record_does_not_matter(self):
        self.assertEqual(Cutlist(small, 4, ((small, 0, 4),)).joins, ())


class Moving(Raising):
    half, back = Move((small,), (("rate", 1, 2),)), Move((small,), (("back", 5),))
    none = Move((small,), (("rate", 1, 100),))
    over = Move((small, plain), (("read", 1, "next"),))

    def test_halved(self):
        record = Cutlist(small, 7, ((small, 3, 5), (small, 8, 4)))
        self.assertEqual(record.moved(0, self.half).clips, ((small, 1, 3), (small, 8, 4)))
        self.assertEqual(record.moved(1, self.half).clips, ((small, 3, 5), (small, 4, 2)))
        self.assertEqual(record.clips, ((small, 3, 5), (small, 8, 4)))

    def test_clip_without_frames_is_left_out(self):
        record = Cutlist(small, 7, ((small, 3, 5), (small, 8, 4), (small, 99, 1)))
        self.assertEqual(record.moved(0, self.none), Cutlist(small, 7, ((small, 8, 4), (small, 99, 1))))
        self.assertEqual(record.moved(1, self.none), Cutlist(small, 7, ((small, 3, 5), (small, 99, 1))))
        self.assertEqual(record.moved(2, self.none), Cutlist(small, 7, ((small, 3, 5), (small, 8, 4), (small, 0, 1))))
        self.assertEqual(Cutlist(small, 7, ((small, 3, 5),)).moved(0, self.none), Cutlist(small, 7))

    def test_house_in_which_it_ends(self):
        record = Cutlist(drop, 0, ((small, 0, 4),))
        self.assertEqual(record.moved(0, self.over).clips, ((plain, 1, 4),))
        # The houses of the move need not be that of the clip.
        other = Cutlist(drop, 0, ((drop, 0, 4),))
        self.assertEqual(other.moved(0, self.over).clips, ((plain, 1, 4),))
        self.assertEqual(other.moved(0, Move((small,))).clips, ((small, 0, 4),))
        self.assertEqual(other.moved(0, self.over).house, drop)

    def test_lost_with_the_frame_of_the_clip(self):
        record = Cutlist(small, 7, ((small, 4, 9), (small, 5, 1), (small, 4, 1)))
        self.assertEqual(self.raised(Lost, record.moved, 0, self.back).given, 4)
        self.assertEqual(record.moved(1, self.back).clips[1], (small, 0, 1))
        self.assertEqual(self.raised(Lost, record.moved, 2, self.back).given, 4)
        far = Cutlist(small, 0, ((small, 10 ** 40 - 1, 1),))
        self.assertEqual(self.raised(Lost, far.moved, 0, Move((small,), (("back", 10 ** 40),))).given, 10 ** 40 - 1)

    def test_no_index_of_a_clip(self):
        record = Cutlist(small, 0, ((small, 0, 4), (small, 4, 4)))
        for given in (2, 3, 10 ** 40, *NO_NUMBERS):
            self.assert_given(InvalidNumber, given, record.moved, given, ON)
            self.assert_given(InvalidNumber, given, record.moved, given, None)
        self.assert_given(InvalidNumber, 0, Cutlist(small, 0).moved, 0, ON)

    def test_no_move(self):
        record = Cutlist(small, 0, ((small, 0, 4),))
        for given in (*NO_NUMBERS[:-1], 0, 5, str(ON), [ON], (ON,), Move, record):
            self.assert_given(NotAMove, given, record.moved, 0, given)

    def test_number_ahead_of_move_ahead_of_lost(self):
        record, wrong = Cutlist(small, 0, ((small, 0, 4),)), object()
        self.assert_given(InvalidNumber, 1, record.moved, 1, wrong)
        self.assert_given(InvalidNumber, 1, record.moved, 1, self.back)
        self.assert_given(NotAMove, wrong, record.moved, 0, wrong)
        self.assertEqual(self.raised(Lost, record.moved, 0, self.back).given, 0)

    def test_frames_of_any_size(self):
        record, grow = Cutlist(small, 0, ((small, 1, 1),)), Move((small,), (("rate", 100, 1),) * 8)
        for _ in range(320):
            record = record.moved(0, grow)
        self.assertEqual(record.total, 10 ** 5120)
        self.assertEqual(record.look(10 ** 5120 - 1), (0, 2 * 10 ** 5120 - 1, 10 ** 5120 - 1))
        self.assertEqual(repr(record), "Cutlist(1 clips, 1" + "0" * 5120 + " frames)")


class Making(Raising):
    def test_house_ahead_of_frame_ahead_of_clips(self):
        left, right = object(), object()
        self.assert_given(NotAHouse, left, Cutlist, left, right, None)
        self.assert_given(InvalidNumber, right, Cutlist, small, right, None)
        self.assert_index(InvalidClips, None, Cutlist, small, 0, None)

    def test_no_house(self):
        for given in (*NO_NUMBERS[:-2], ON, 0, 1, SMALL, str(small), House, (small,), [small]):
            self.assert_given(NotAHouse, given, Cutlist, given, 0)

    def test_no_frame(self):
        for given in NO_NUMBERS:
            self.assert_given(InvalidNumber, given, Cutlist, small, given)
            self.assert_given(InvalidNumber, given, Cutlist, small, given, ())

    def test_no_tuple_of_clips_or_too_many(self):
        clip = (small, 0, 1)
        for clips in ([clip], [], {0: clip}, clip[0], 0, 1, *TRUTHS, *STRINGS, *OTHER_KINDS, (clip,) * 21, (None,) * 21):
            if not isinstance(clips, tuple) or len(clips) > 20:
                self.assert_index(InvalidClips, None, Cutlist, small, 0, clips)
        self.assertEqual(Cutlist(small, 0, (clip,) * 20).total, 20)

    def test_first_wrong_one(self):
        clip = (small, 0, 1)
        self.assert_index(InvalidClips, 0, Cutlist, small, 0, clip)
        for index in (0, 1, 18):
            clips = (clip,) * index + ((small, 0, 0), clip, None)[:20 - index]
            self.assert_index(InvalidClips, index, Cutlist, small, 0, clips)
        self.assert_index(InvalidClips, 19, Cutlist, small, 0, (clip,) * 19 + (None,))

    def test_wrong_ones_of_each_kind(self):
        clip = (small, 0, 1)
        others = (0, 1, small, [small, 0, 1], (small, 0), (small, 0, 1, 1), (clip,), ())
        for wrong in (*NO_NUMBERS, *others):
            self.assert_index(InvalidClips, 1, Cutlist, small, 0, (clip, wrong, wrong))

    def test_wrong_elements_of_each_kind(self):
        for wrong in NO_NUMBERS:
            self.assert_index(InvalidClips, 0, Cutlist, small, 0, ((small, wrong, 1),))
            self.assert_index(InvalidClips, 0, Cutlist, small, 0, ((small, 0, wrong),))
            if wrong is not small:
                self.assert_index(InvalidClips, 0, Cutlist, small, 0, ((wrong, 0, 1),))
        self.assert_index(InvalidClips, 0, Cutlist, small, 0, ((0, 0, 1),))
        self.assert_index(InvalidClips, 0, Cutlist, small, 0, ((small, 0, 0),))
        self.assertEqual(Cutlist(small, 0, ((small, 0, 10 ** 40),)).total, 10 ** 40)

    def test_by_position_and_by_name(self):
        clips = ((small, 0, 4), (small, 4, 1))
        record = Cutlist(clips=clips, frame=10, house=plain)
        self.assertEqual(record, Cutlist(plain, 10, clips))
        self.assertEqual(record, Cutlist(plain, 10, clips=clips))
        self.assertIs(record.clips, clips)
        self.assertEqual(Cutlist(frame=10, house=plain), Cutlist(plain, 10))
        self.assertEqual(record.look(number=4), record.look(4))
        self.assertEqual(record.moved(move=ON, index=1), record.moved(1, ON))
        self.assertEqual(record.moved(1, move=ON).clips, ((small, 0, 4), (small, 6, 1)))

    def test_nothing_changes(self):
        clips = ((small, 0, 4), (small, 4, 1))
        record = Cutlist(plain, 10, clips)
        told = []
        for _ in range(2):
            told.append((record.starts, record.total, record.joins, record.look(4), record.joined(), record.moved(1, ON)))
            self.raised(InvalidNumber, record.look, 5)
            self.raised(InvalidNumber, record.moved, 2, ON)
        self.assertEqual(told[0], told[1])
        self.assertEqual((record, record.clips, record.record_frame), (Cutlist(plain, 10, clips), clips, 10))
        self.assertEqual((str(ON), clips), (f"{small}\nmove\non 2", ((small, 0, 4), (small, 4, 1))))

    def test_cannot_be_changed(self):
        record = Cutlist(plain, 10, ((small, 0, 4),))
        for name in ("house", "clips", "record_frame", "starts", "total", "joins"):
            with self.assertRaises(AttributeError):
                setattr(record, name, 0)


class Equal(Raising):
    clips = ((small, 0, 4), (plain, 4, 1))
    record = Cutlist(plain, 10, clips)

    def test_equal_houses_frames_and_clips(self):
        other = Cutlist(House(*PLAIN), 10, ((twin, 0, 4), (House(*PLAIN), 4, 1)))
        self.assertTrue(self.record == other)
        self.assertFalse(self.record != other)

    def test_something_otherwise(self):
        others = (
            Cutlist(small, 10, self.clips), Cutlist(plain, 11, self.clips), Cutlist(plain, 10), Cutlist(plain, 10, self.clips[:1]),
            Cutlist(plain, 10, self.clips[::-1]), Cutlist(plain, 10, ((small, 0, 4), (plain, 4, 2))),
            Cutlist(plain, 10, ((small, 0, 4), (plain, 5, 1))), Cutlist(plain, 10, ((small, 0, 4), (small, 4, 1))),
            Cutlist(plain, 10, (*self.clips, (small, 0, 1))), Cutlist(drop, 10, self.clips),
        )
        for other in others:
            self.assertFalse(self.record == other)
            self.assertTrue(self.record != other)
            self.assertTrue(other == other)

    def test_never_equal_to_values_of_other_classes(self):
        others = (*NO_NUMBERS, 0, 9, repr(self.record), self.clips, Cutlist, (plain, 10, self.clips))
        for other in others:
            self.assertIs(self.record == other, False)
            self.assertIs(self.record != other, True)
            if not isinstance(other, (Agreeing, Refusing)):
                self.assertIs(other == self.record, False)
                self.assertIs(other != self.record, True)

    def test_repr(self):
        self.assertEqual(repr(self.record), "Cutlist(2 clips, 5 frames)")
        self.assertEqual(repr(Cutlist(small, 7)), "Cutlist(0 clips, 0 frames)")
        self.assertEqual(repr(Cutlist(small, 7, ((small, 9, 1),))), "Cutlist(1 clips, 1 frames)")
        self.assertEqual(repr(Cutlist(small, 7, ((small, 9, 10 ** 40),) * 20)), f"Cutlist(20 clips, {20 * 10 ** 40} frames)")


if __name__ == "__main__":
    unittest.main()
