"""Two moves beside each other: where they differ, and how far they come apart.

Behind both first frames, the distances come again in each common round, all of them greater by the same amount.
"""

from math import lcm

from labelmoves.checks import check_number, is_integer
from labelmoves.errors import InvalidNumber, TooLong
from labelmoves.limits import MOST_ROUND
from labelmoves.moves import check_move
from labelmoves.rounds import rounds_until_above, rounds_until_at


def check_moves(one, other):
    """Raise NotAMove unless both are moves."""
    check_move(one)
    check_move(other)


def check_distance(given):
    """Raise InvalidNumber unless this is an integer."""
    if not is_integer(given):
        raise InvalidNumber(given)


def through_both(one, other):
    """The least number above 0 that goes through both moves."""
    return lcm(one.through, other.through)


def check_together(one, other):
    """Raise TooLong if it takes too long until both moves repeat."""
    if through_both(one, other) > MOST_ROUND:
        raise TooLong(MOST_ROUND)


def common_round(one, other):
    """The first frame that neither loses, the distances of a common round from there on, and by how much they grow."""
    first = max(one.first, other.first)
    many = lcm(one.round[0], other.round[0])
    apart = [one.of(frame) - other.of(frame) for frame in range(first, first + many + 1)]
    return first, apart[:many], apart[many] - apart[0]


def least_frame(first, rounds):
    """The least frame, being told for each frame of a round after how many rounds it is, None if never."""
    many = len(rounds)
    return min([first + at + times * many for at, times in enumerate(rounds) if times is not None], default=None)


def first_unlike(one, other):
    """The least frame for which the values are not the same, None if there is none."""
    check_moves(one, other)
    check_together(one, other)
    if one.first != other.first:
        return min(one.first, other.first)
    first, apart, growth = common_round(one, other)
    for at, distance in enumerate(apart):
        if distance != 0:
            return first + at
    return None if growth == 0 else first + len(apart)


def first_earlier(one, other):
    """The least frame for which the value of `one` is below that of `other`, None if there is none."""
    check_moves(one, other)
    check_together(one, other)
    first, apart, growth = common_round(one, other)
    return least_frame(first, [rounds_until_above(-distance, -growth, 0) for distance in apart])


def first_outside(one, other, low, high):
    """The least frame with a distance below `low` or above `high`, None if there is none."""
    check_together(one, other)
    first, apart, growth = common_round(one, other)
    below = least_frame(first, [rounds_until_above(-distance, -growth, -low) for distance in apart])
    above = least_frame(first, [rounds_until_above(distance, growth, high) for distance in apart])
    return min([frame for frame in (below, above) if frame is not None], default=None)


def distances(one, other):
    """The least and the greatest distance, None in the place of one that there is not."""
    check_moves(one, other)
    check_together(one, other)
    _, apart, growth = common_round(one, other)
    return (min(apart) if growth >= 0 else None, max(apart) if growth <= 0 else None)


def first_at(one, other, distance):
    """The least frame with this distance, None if there is none."""
    check_moves(one, other)
    check_distance(distance)
    check_together(one, other)
    first, apart, growth = common_round(one, other)
    return least_frame(first, [rounds_until_at(number, growth, distance) for number in apart])


def times_at(one, other, distance, frame):
    """How many frames below this one have this distance."""
    check_moves(one, other)
    check_distance(distance)
    check_number(frame)
    check_together(one, other)
    first, apart, growth = common_round(one, other)
    many = len(apart)
    times = 0
    for at, number in enumerate(apart):
        rounds = rounds_until_at(number, growth, distance)
        if rounds is not None and first + at + rounds * many < frame:
            # Distances that grow come once, the others again in each round.
            times += 1 if growth != 0 else (frame - first - at - 1) // many + 1
    return times
