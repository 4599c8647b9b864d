"""Moves once more, straight from the words of the document: slow, and without the program, but for `made`.

A move is here a pair of a tuple of houses, as in plain_houses, and a tuple of steps. Labels are walked one by one.
"""

from functools import lru_cache
from itertools import count
from math import gcd, lcm, prod
from random import Random

from plain_houses import is_skipped, labels_below, plain_round, repeating_units

from labelmoves.houses import House
from labelmoves.moves import Move

FAR = 10 ** 30 + 7


class PlainHouse:
    """The labels of as many units of field 0 as it takes until the skipping repeats, and those far behind them."""

    def __init__(self, bases, rows):
        self.bases, self.rows = bases, rows
        self.units = repeating_units(bases, rows)
        self.borne = [label for label in labels_below(bases, self.units) if not is_skipped(rows, label)]
        self.numbers = {label: frame for frame, label in enumerate(self.borne)}
        groups, self.frames = plain_round(bases, rows)
        self.places = groups * bases[-1]

    def label(self, frame):
        rounds, rest = divmod(frame, len(self.borne))
        label = self.borne[rest]
        return (label[0] + rounds * self.units, *label[1:])

    def frame(self, label):
        """The frame that bears the label, None if it is skipped."""
        rounds, rest = divmod(label[0], self.units)
        number = self.numbers.get((rest, *label[1:]))
        return None if number is None else number + rounds * len(self.borne)

    def place(self, label):
        return sum(number * prod(self.bases[at:]) for at, number in enumerate(label))

    def label_of_place(self, place):
        label = [place // prod(self.bases)]
        for at, base in enumerate(self.bases, start=1):
            label.append(place // prod(self.bases[at:]) % base)
        return tuple(label)

    def bearing(self, label, way):
        """The frame that bears the label, or if it is skipped the next or the last one, looked for label by label."""
        place = self.place(label)
        while place >= 0:
            frame = self.frame(self.label_of_place(place))
            if frame is not None:
                return frame
            place += 1 if way == "next" else -1
        return None


@lru_cache(maxsize=None)
def plain_house(house):
    return PlainHouse(*house)


def plain_on_labels(house, frame, amount, way):
    place = house.place(house.label(frame)) + amount
    return house.bearing(house.label_of_place(place), way) if place >= 0 else None


def plain_to(house, frame, field):
    """The first frame with a label of the unit in which its label lies, or of a later one."""
    unit = house.label(frame)[:field + 1]
    while frame > 0 and house.label(frame - 1)[:field + 1] >= unit:
        frame -= 1
    return frame


def plain_after(house, frame, field):
    """The first frame with a label of a unit behind the one in which its label lies."""
    unit = house.label(frame)[:field + 1]
    while house.label(frame)[:field + 1] <= unit:
        frame += 1
    return frame


def plain_led(houses, at, step, frame):
    """The frame, None if it is lost, to which this one step leads."""
    house = plain_house(houses[at])
    word, *parts = step
    if word == "on":
        return frame + parts[0]
    if word == "back":
        return frame - parts[0] if frame >= parts[0] else None
    if word == "label":
        return plain_on_labels(house, frame, parts[0], parts[1])
    if word == "unlabel":
        return plain_on_labels(house, frame, -parts[0], parts[1])
    if word == "to":
        return plain_to(house, frame, parts[0])
    if word == "after":
        return plain_after(house, frame, parts[0])
    if word == "read":
        return plain_house(houses[parts[0]]).bearing(house.label(frame), parts[1])
    if word == "call":
        return frame
    assert word == "rate"
    return frame * parts[0] // parts[1]


def plain_value(houses, steps, frame):
    """The value, None if the frame is lost."""
    at = 0
    for step in steps:
        frame = plain_led(houses, at, step, frame)
        if frame is None:
            return None
        at = step[1] if step[0] in ("read", "call") else at
    return frame


def divided(number, divisor):
    """The number divided, None if that leaves a rest."""
    return number // divisor if number % divisor == 0 else None


def plain_becoming(houses, steps, number):
    """What the number becomes that goes through the steps, None if it does not."""
    at = 0
    for step in steps:
        house = plain_house(houses[at])
        word, *parts = step
        if word in ("label", "unlabel"):
            if number % house.frames:
                return None
        elif word in ("to", "after"):
            least = lcm(house.places, prod(house.bases[parts[0]:]))
            if number % (house.frames * least // house.places):
                return None
        elif word == "read":
            there = plain_house(houses[parts[0]])
            least = lcm(house.places, there.places)
            times = divided(number, house.frames * least // house.places)
            if times is None:
                return None
            number = times * (there.frames * least // there.places)
        elif word == "rate":
            common = gcd(*parts)
            times = divided(number, parts[1] // common)
            if times is None:
                return None
            number = times * (parts[0] // common)
        at = step[1] if word in ("read", "call") else at
    return number


def plain_through(*moves, most=20000):
    """The least number above 0 that goes through all the moves, None if it is above `most`."""
    for number in range(1, most + 1):
        if all(plain_becoming(*move, number) is not None for move in moves):
            return number
    return None


def plain_first(houses, steps):
    """The least frame that is not lost, counted up from frame 0."""
    return next(frame for frame in count() if plain_value(houses, steps, frame) is not None)


def plain_text(houses, steps):
    """The text of the move."""
    lines = []
    for bases, rows in houses:
        lines.append(" ".join(["house", *map(str, bases)]))
        lines += [" ".join(["skip", *map(str, row)]) for row in rows]
    return "\n".join([*lines, "move", *[" ".join(map(str, step)) for step in steps]])


# Houses whose labels can be read in each other, with short rounds.
FAMILIES = (
    (((3,), ()), ((3,), ((0, 2, 1),)), ((3,), ((0, 1, 1), (0, 3, 2)))),
    (((2, 3), ()), ((2, 3), ((0, 1, 1),)), ((2, 3), ((0, 2, 2), (1, 1, 1))), ((2, 3), ((0, 3, 2),))),
    (((3, 2), ((1, 1, 1),)), ((3, 2), ((1, 2, 1),)), ((3, 2), ((0, 1, 1), (0, 2, 0)))),
    (((2, 2, 3), ()), ((2, 2, 3), ((0, 1, 2),)), ((2, 2, 3), ((1, 1, 1), (0, 2, 2))), ((2, 2, 3), ((2, 1, 2), (0, 1, 0)))),
)

PLAIN, SMALL = FAMILIES[1][:2]


def made(houses, steps):
    """The move of the program."""
    return Move(tuple(House(*house) for house in houses), steps)


def random_step(random, houses, at, most):
    """A step that begins in house number `at`."""
    word = random.choice("on back label unlabel to after read read call rate".split())
    amount, way = random.randrange(most), random.choice(("next", "last"))
    if word in ("on", "back"):
        return word, amount
    if word in ("label", "unlabel"):
        return word, amount, way
    if word in ("to", "after"):
        return word, random.randrange(len(houses[at][0]))
    if word == "read":
        like = [number for number, house in enumerate(houses) if house[0] == houses[at][0]]
        return word, random.choice(like), way
    if word == "call":
        return word, random.randrange(len(houses))
    return word, random.choice((1, 1, 2, 3, 4, 100)), random.choice((1, 1, 2, 3, 5))


def random_move(random, most=8, longest=90, firsts=60):
    """A move that repeats and that no longer loses frames within so many frames."""
    while True:
        family = random.choice(FAMILIES)
        houses = [random.choice(family) for _ in range(random.randint(1, 3))]
        if random.random() < 0.2:
            houses[-1] = random.choice(random.choice(FAMILIES))
        steps, at = [], 0
        for _ in range(random.randint(0, most)):
            steps.append(random_step(random, houses, at, 13))
            at = steps[-1][1] if steps[-1][0] in ("read", "call") else at
        move = tuple(houses), tuple(steps)
        if plain_through(move, most=longest) is not None and plain_value(*move, firsts) is not None:
            return move


def random_moves(seed, many, **limits):
    """So many moves, always the same ones for the same seed."""
    random = Random(seed)
    return [random_move(random, **limits) for _ in range(many)]
