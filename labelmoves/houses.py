"""Houses: labels of which some are skipped, and the frames that bear the others."""

from labelmoves.checks import check_number, check_way, is_integer_within
from labelmoves.errors import InvalidBases, InvalidLabel, InvalidRows, InvalidText, NotAHouse, TooLong
from labelmoves.figures import read_number
from labelmoves.labels import is_label, label_at, place_of, read_label, written_label
from labelmoves.limits import MOST_BASES, MOST_GROUPS, MOST_ROWS
from labelmoves.skipping import groups_to_repeat, last_not_above, least_repeat, skipped_counts, sums_ahead

LEAST_BASE = 2
GREATEST_BASE = 60
GREATEST_EVERY = 60


def check_bases(bases):
    """Raise InvalidBases unless these are bases."""
    if not isinstance(bases, tuple) or not 1 <= len(bases) <= MOST_BASES:
        raise InvalidBases(None)
    for index, base in enumerate(bases):
        if not is_integer_within(base, LEAST_BASE, GREATEST_BASE):
            raise InvalidBases(index)


def is_row(bases, value):
    """Whether the value is a row of a house with these bases."""
    if not isinstance(value, tuple) or len(value) != 3:
        return False
    field, every, count = value
    return (
        is_integer_within(field, 0, len(bases) - 1)
        and is_integer_within(every, 1, GREATEST_EVERY)
        and is_integer_within(count, 0, bases[-1] - 1)
    )


def check_rows(bases, rows):
    """Raise InvalidRows unless these are rows of a house with these bases."""
    if not isinstance(rows, tuple) or len(rows) > MOST_ROWS:
        raise InvalidRows(None)
    for index, row in enumerate(rows):
        if not is_row(bases, row):
            raise InvalidRows(index)


def spaced(parts):
    """The numbers or words with single spaces between."""
    return " ".join([str(part) for part in parts])


def house_text(bases, rows):
    """The text of the house with these bases and rows."""
    lines = [f"house {spaced(bases)}"]
    for row in rows:
        lines.append(f"skip {spaced(row)}")
    return "\n".join(lines)


def numbers_behind(word, line):
    """The tuple of the numbers behind the word, None for each that is none; None if the line has no such form."""
    first, *others = line.split(" ")
    if first != word:
        return None
    return tuple([read_number(other) for other in others])


class House:
    """Bases, and rows that tell which labels are skipped."""

    def __init__(self, bases, rows=()):
        check_bases(bases)
        check_rows(bases, rows)
        groups = groups_to_repeat(bases, rows)
        if groups > MOST_GROUPS:
            raise TooLong(MOST_GROUPS)
        counts = skipped_counts(bases, rows, groups)
        self._bases = bases
        self._rows = rows
        self._text = house_text(bases, rows)
        self._skipped = counts[:least_repeat(counts)]
        borne = [bases[-1] - count for count in self._skipped]
        self._frames_ahead = sums_ahead(borne)
        self._round = (len(borne), sum(borne))

    @classmethod
    def read(cls, text):
        """The house with this text."""
        if not isinstance(text, str):
            raise InvalidText(text)
        first, *others = text.split("\n")
        bases = numbers_behind("house", first)
        rows = tuple([numbers_behind("skip", line) for line in others])
        try:
            # What could not be read stands there as None, which no house takes.
            return cls(bases, rows)
        except (InvalidBases, InvalidRows, TooLong):
            raise InvalidText(text) from None

    @property
    def bases(self):
        """The tuple of the bases."""
        return self._bases

    @property
    def rows(self):
        """The tuple of the rows."""
        return self._rows

    @property
    def round(self):
        """The pair of the groups and the frames after which the skipping repeats."""
        return self._round

    def label(self, frame):
        """The label that this frame bears."""
        check_number(frame)
        return label_at(self._bases, self._place_borne(frame))

    def place(self, frame):
        """The place of the label that this frame bears."""
        check_number(frame)
        return self._place_borne(frame)

    def written(self, frame):
        """The text of the label that this frame bears."""
        check_number(frame)
        return written_label(self._bases, label_at(self._bases, self._place_borne(frame)))

    def frame(self, label):
        """The frame that bears this label, None if it is skipped."""
        if not is_label(self._bases, label):
            raise InvalidLabel(label)
        return self._frame_bearing(place_of(self._bases, label))

    def spoken(self, text):
        """The frame that bears the label with this text, None if it is skipped."""
        if not isinstance(text, str):
            raise InvalidText(text)
        label = read_label(self._bases, text)
        if label is None:
            raise InvalidText(text)
        return self._frame_bearing(place_of(self._bases, label))

    def at(self, place, way):
        """The frame that bears the label with this place, or the next or last one if it is skipped."""
        check_number(place)
        check_way(way)
        frame = self._frame_bearing(place)
        if frame is not None:
            return frame
        # Only the first labels of a group are skipped, never all, so the next frame is the first one in the group.
        following = self._first_frame(place // self._bases[-1])
        if way == "next":
            return following
        return following - 1 if following > 0 else None

    def places_of(self, frames):
        """What `place` tells for each of these ascending frames."""
        base = self._bases[-1]
        places = []
        ahead = behind = 0
        for frame in frames:
            # Looked up once for each group, since the frames of a group bear labels without a gap.
            if frame >= behind:
                place = self._place_borne(frame)
                ahead = place - frame
                behind = frame + base - place % base
            places.append(frame + ahead)
        return places

    def frames_at(self, places, way):
        """What `at` tells for each of these ascending places, none of which is without a last frame."""
        base = self._bases[-1]
        frames = []
        first = borne = behind = 0
        for place in places:
            # Looked up once for each group, as above.
            if place >= behind:
                group = place // base
                first = self._first_frame(group)
                borne = group * base + self._skipped[group % self._round[0]]
                behind = (group + 1) * base
            if place >= borne:
                frames.append(first + place - borne)
            else:
                frames.append(first if way == "next" else first - 1)
        return frames

    def _first_frame(self, group):
        """The frame of the first label in the group that is not skipped."""
        groups, frames = self._round
        rounds, rest = divmod(group, groups)
        return rounds * frames + self._frames_ahead[rest]

    def _place_borne(self, frame):
        """The place of the label that this frame bears."""
        groups, frames = self._round
        rounds, rest = divmod(frame, frames)
        group = last_not_above(self._frames_ahead, rest)
        number = self._skipped[group] + rest - self._frames_ahead[group]
        return (rounds * groups + group) * self._bases[-1] + number

    def _frame_bearing(self, place):
        """The frame that bears the label with this place, None if it is skipped."""
        group, number = divmod(place, self._bases[-1])
        behind = number - self._skipped[group % self._round[0]]
        return self._first_frame(group) + behind if behind >= 0 else None

    def __eq__(self, other):
        return isinstance(other, House) and self._text == other._text

    def __str__(self):
        return str(self._text)

    def __repr__(self):
        return f"House({spaced(self._bases)}, {len(self._rows)} rows)"


def check_house(given):
    """Raise NotAHouse unless this is a house."""
    if not isinstance(given, House):
        raise NotAHouse(given)
