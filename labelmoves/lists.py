"""Lists of clips: a record that shows parts of tapes one behind the other."""

from labelmoves.checks import check_number, is_integer_within, is_number
from labelmoves.errors import InvalidClips, InvalidNumber, Lost
from labelmoves.figures import written_number
from labelmoves.houses import House, check_house
from labelmoves.limits import MOST_CLIPS
from labelmoves.moves import check_move
from labelmoves.skipping import last_not_above, sums_ahead


def is_clip(value):
    """Whether the value is a clip."""
    if not isinstance(value, tuple) or len(value) != 3:
        return False
    house, frame, many = value
    return isinstance(house, House) and is_number(frame) and is_number(many) and many >= 1


def check_clips(clips):
    """Raise InvalidClips unless these are clips of a list."""
    if not isinstance(clips, tuple) or len(clips) > MOST_CLIPS:
        raise InvalidClips(None)
    for index, clip in enumerate(clips):
        if not is_clip(clip):
            raise InvalidClips(index)


def goes_on(clip, following):
    """Whether the tape goes on from the clip to the one behind it."""
    house, frame, many = clip
    return house == following[0] and frame + many == following[1]


class Cutlist:
    """Clips one behind the other, on a record whose labels are those of a house, from a frame on."""

    def __init__(self, house, frame, clips=()):
        check_house(house)
        check_number(frame)
        check_clips(clips)
        lengths = [clip[2] for clip in clips]
        self._house = house
        self._start = frame
        self._clips = clips
        self._shown_ahead = sums_ahead(lengths)
        self._total = sum(lengths)

    @property
    def house(self):
        """The house of the record."""
        return self._house

    @property
    def clips(self):
        """The tuple of the clips."""
        return self._clips

    @property
    def record_frame(self):
        """The frame of the record at which it begins."""
        return self._start

    @property
    def starts(self):
        """The frames of the record at which the clips begin."""
        return tuple([self._start + ahead for ahead in self._shown_ahead])

    @property
    def total(self):
        """How many frames it shows."""
        return self._total

    @property
    def joins(self):
        """The indexes of the clips to which the tape goes on from the clip before."""
        clips = self._clips
        return tuple([at for at in range(1, len(clips)) if goes_on(clips[at - 1], clips[at])])

    def look(self, number):
        """For this one of the shown frames: the index of the clip, the frame of its tape, and that of the record."""
        if not is_integer_within(number, 0, self._total - 1):
            raise InvalidNumber(number)
        index = last_not_above(self._shown_ahead, number)
        return index, self._clips[index][1] + number - self._shown_ahead[index], self._start + number

    def joined(self):
        """The list in which each clip to which the tape goes on is put together with the one before it."""
        clips = []
        for clip in self._clips:
            if clips and goes_on(clips[-1], clip):
                house, frame, many = clips[-1]
                clips[-1] = (house, frame, many + clip[2])
            else:
                clips.append(clip)
        return Cutlist(self._house, self._start, tuple(clips))

    def moved(self, index, move):
        """The list in which this clip is where the move leads it."""
        if not is_integer_within(index, 0, len(self._clips) - 1):
            raise InvalidNumber(index)
        check_move(move)
        _, frame, many = self._clips[index]
        start = move.of(frame)
        if start is None:
            raise Lost(frame)
        length = move.of(frame + many) - start
        clips = ((move.end, start, length),) if length > 0 else ()
        return Cutlist(self._house, self._start, self._clips[:index] + clips + self._clips[index + 1:])

    def __eq__(self, other):
        return (
            isinstance(other, Cutlist)
            and self._house == other._house
            and self._start == other._start
            and self._clips == other._clips
        )

    def __repr__(self):
        return f"Cutlist({len(self._clips)} clips, {written_number(self._total)} frames)"
