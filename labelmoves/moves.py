"""Moves: small programs of steps that lead from frames to frames."""

from labelmoves.checks import check_number, is_integer_within
from labelmoves.errors import InvalidHouses, InvalidNumber, InvalidStep, InvalidSteps, InvalidText, NotAMove, TooLong
from labelmoves.houses import House, spaced
from labelmoves.legs import least_led_to, least_through, led, legs_of
from labelmoves.limits import MOST_HOUSES, MOST_ROUND
from labelmoves.skipping import least_repeat
from labelmoves.steps import check_steps, house_behind, read_step


def check_houses(houses):
    """Raise InvalidHouses unless these are houses of a move."""
    if not isinstance(houses, tuple) or not 1 <= len(houses) <= MOST_HOUSES:
        raise InvalidHouses(None)
    for index, house in enumerate(houses):
        if not isinstance(house, House):
            raise InvalidHouses(index)


def last_house(houses, steps):
    """The house in which the steps end."""
    at = 0
    for step in steps:
        at = house_behind(at, step)
    return houses[at]


def move_text(houses, steps):
    """The text of the move with these houses and steps."""
    lines = [str(house) for house in houses]
    lines.append("move")
    for step in steps:
        lines.append(spaced(step))
    return "\n".join(lines)


def texts_of_houses(lines):
    """The lines put together to texts, of which each one begins where a house does."""
    texts = []
    for line in lines:
        if texts and not line.startswith("house"):
            texts[-1] = texts[-1] + "\n" + line
        else:
            texts.append(line)
    return texts


class Move:
    """Houses, and steps that lead from a frame of the first one to another frame."""

    def __init__(self, houses, steps=()):
        check_houses(houses)
        check_steps(houses, steps)
        legs = legs_of(houses, steps)
        through, becoming = least_through(legs)
        if through > MOST_ROUND:
            raise TooLong(MOST_ROUND)
        first = least_led_to(legs, 0)
        values = led(legs, list(range(first, first + through)))
        # What goes through repeats, but the values may do so earlier.
        growths = [later - value for value, later in zip(values, [*values[1:], values[0] + becoming])]
        many = least_repeat(growths)
        self._houses = houses
        self._steps = steps
        self._text = move_text(houses, steps)
        self._end = last_house(houses, steps)
        self._legs = legs
        self._through = through
        self._becoming = becoming
        self._first = first
        self._values = values[:many]
        self._round = (many, sum(growths[:many]))

    @classmethod
    def read(cls, text):
        """The move with this text."""
        if not isinstance(text, str):
            raise InvalidText(text)
        lines = text.split("\n")
        if "move" not in lines:
            raise InvalidText(text)
        at = lines.index("move")
        try:
            houses = tuple([House.read(told) for told in texts_of_houses(lines[:at])])
            # What is no step stands there as another tuple, which no move takes.
            return cls(houses, tuple([read_step(line.split(" ")) for line in lines[at + 1:]]))
        except (InvalidText, InvalidHouses, InvalidSteps, TooLong):
            raise InvalidText(text) from None

    @property
    def houses(self):
        """The tuple of the houses."""
        return self._houses

    @property
    def steps(self):
        """The tuple of the steps."""
        return self._steps

    @property
    def end(self):
        """The house in which it ends."""
        return self._end

    @property
    def first(self):
        """The least frame that is not lost."""
        return self._first

    @property
    def round(self):
        """The pair of the frames after which it repeats, and by how much the values are then greater."""
        return self._round

    @property
    def through(self):
        """The least number above 0 that goes through."""
        return self._through

    def becoming(self, number):
        """What this number becomes that goes through, None if it does not go through."""
        times, rest = divmod(number, self._through)
        return times * self._becoming if rest == 0 else None

    def of(self, frame):
        """The value for this frame, None if it is lost."""
        check_number(frame)
        if frame < self._first:
            return None
        many, growth = self._round
        rounds, rest = divmod(frame - self._first, many)
        return self._values[rest] + rounds * growth

    def reaching(self, frame):
        """The least frame whose value is at least this one."""
        return least_led_to(self._legs, frame)

    def with_step(self, index, step):
        """The move with another step in the place of the one with this index."""
        if not is_integer_within(index, 0, len(self._steps) - 1):
            raise InvalidNumber(index)
        return self._with_steps(self._steps[:index] + (step,) + self._steps[index + 1:], step)

    def then(self, step):
        """The move with one more step."""
        return self._with_steps(self._steps + (step,), step)

    def _with_steps(self, steps, new):
        """The move with these steps, of which one is new."""
        try:
            return Move(self._houses, steps)
        except InvalidSteps:
            raise InvalidStep(new) from None

    def __len__(self):
        return len(self._steps)

    def __eq__(self, other):
        return isinstance(other, Move) and self._text == other._text

    def __str__(self):
        return str(self._text)

    def __repr__(self):
        return f"Move({len(self._houses)} houses, {len(self._steps)} steps)"


def check_move(given):
    """Raise NotAMove unless this is a move."""
    if not isinstance(given, Move):
        raise NotAMove(given)
