"""Wishes told frame by frame, without the program.

Moves are pairs of houses and steps, as in plain_moves. A wish has such a pair in the place of a text.
"""

from functools import lru_cache

from plain_moves import FAR, plain_first, plain_text, plain_value

value = lru_cache(maxsize=None)(plain_value)
first = lru_cache(maxsize=None)(plain_first)


def apart(one, other, frame):
    """The distance, None if one of the moves loses the frame."""
    left, right = value(*one, frame), value(*other, frame)
    return None if left is None or right is None else left - right


def stretched(move, many, frame):
    """The difference to the value so many frames behind, None if the frame is lost."""
    return None if value(*move, frame) is None else value(*move, frame + many) - value(*move, frame)


def is_missed(move, frame):
    """Whether it is above the value for the first frame and not a value."""
    start = first(*move)
    if frame <= value(*move, start):
        return False
    while value(*move, start) < frame:
        start += 1
    return value(*move, start) != frame


def is_doubled(move, frame):
    """Whether the frame behind has the same value."""
    return value(*move, frame) is not None and value(*move, frame) == value(*move, frame + 1)


def shows(move, wish, frame):
    """Whether this frame shows that the wish does not hold."""
    word, *parts = wish
    if word == "alike":
        return value(*move, frame) != value(*parts[0], frame)
    if word == "full":
        return is_missed(move, frame)
    if word == "single":
        return is_doubled(move, frame)
    number = stretched(move, parts[0], frame) if word == "stretch" else apart(move, parts[0], frame)
    if word == "later":
        return number is not None and number < 0
    low, high = parts[1:]
    return number is not None and (number < low or number > high)


def written(told):
    """The wish or claim with texts in the place of moves."""
    return tuple(plain_text(*part) if isinstance(part, tuple) else part for part in told)


def bounds_about(random, numbers):
    """Bounds that the numbers keep, just miss, or do not keep at all."""
    low, high = min(numbers), max(numbers)
    return random.choice((
        (low, high), (low, high), (low + 1, high), (low, high - 1), (low - 1, high + 1), (high, low), (high + 1, low - 1),
        (low - FAR, high + FAR), (low, high + FAR), (low - FAR, high), (-FAR, -FAR), (FAR, FAR), (0, 0),
    ))


def random_wishes(random, one, other, told):
    """Wishes for the move `one`, of each sort; `told` are its distances from `other`, as in plain_pairs."""
    many = random.choice((0, 1, 2, 5, told.many, told.many + 1, FAR))
    differences = [stretched(one, many, frame) for frame in range(first(*one), first(*one) + told.many)]
    return (
        ("alike", other),
        ("later", other),
        ("within", other, *bounds_about(random, told.apart)),
        ("within", other, *bounds_about(random, told.apart[:told.many])),
        ("stretch", many, *bounds_about(random, differences)),
        ("stretch", many, *bounds_about(random, differences)),
        ("full",),
        ("single",),
    )
