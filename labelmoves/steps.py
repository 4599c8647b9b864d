"""Steps of moves: which tuples they are, and in which house each of them begins."""

from labelmoves.checks import is_integer_within, is_number, is_way, word_of
from labelmoves.errors import InvalidSteps
from labelmoves.figures import read_number
from labelmoves.limits import MOST_STEPS

GREATEST_AMOUNT = 10 ** 40
GREATEST_RATE = 100

# What stands behind the word of a step, in order.
FORMS = {
    "on": ("amount",),
    "back": ("amount",),
    "label": ("amount", "way"),
    "unlabel": ("amount", "way"),
    "to": ("field",),
    "after": ("field",),
    "read": ("house", "way"),
    "call": ("house",),
    "rate": ("rate", "rate"),
}


def has_form(value):
    """Whether the value is a tuple with the word of a step and as many parts behind it as this step has."""
    kinds = FORMS.get(word_of(value))
    return kinds is not None and len(value) == len(kinds) + 1


def bounds(kind, houses, at):
    """The least and the greatest number of this kind in a step that begins in house number `at`."""
    if kind == "amount":
        return 0, GREATEST_AMOUNT
    if kind == "field":
        return 0, len(houses[at].bases) - 1
    if kind == "house":
        return 0, len(houses) - 1
    return 1, GREATEST_RATE


def is_part(kind, houses, at, value):
    """Whether the value is of this kind in a step that begins in house number `at`."""
    if kind == "way":
        return is_way(value)
    low, high = bounds(kind, houses, at)
    return is_integer_within(value, low, high)


def is_step(houses, at, value):
    """Whether the value is a step that begins in house number `at`."""
    if not has_form(value):
        return False
    word = value[0]
    if not all([is_part(kind, houses, at, part) for kind, part in zip(FORMS[word], value[1:])]):
        return False
    return word != "read" or houses[value[1]].bases == houses[at].bases


def house_behind(at, step):
    """The number of the house in which a step ends that begins in house number `at`."""
    return step[1] if step[0] in ("read", "call") else at


def check_steps(houses, steps):
    """Raise InvalidSteps unless these are steps of a move with these houses."""
    if not isinstance(steps, tuple) or len(steps) > MOST_STEPS:
        raise InvalidSteps(None)
    at = 0
    for index, step in enumerate(steps):
        if not is_step(houses, at, step):
            raise InvalidSteps(index)
        at = house_behind(at, step)


def read_part(word):
    """The number that the word writes, otherwise the word itself."""
    number = read_number(word)
    return word if number is None else number


def read_step(words):
    """The tuple that these words write, which need not be a step."""
    return tuple([read_part(word) for word in words])


def is_like_step(value):
    """Whether the value is like a step, but with any numbers from 0 on."""
    if not has_form(value):
        return False
    kinds = FORMS[value[0]]
    return all([is_way(part) if kind == "way" else is_number(part) for kind, part in zip(kinds, value[1:])])
