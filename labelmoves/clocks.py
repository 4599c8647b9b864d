"""How far the labels of a house and the clock drift apart.

A *gap* is a drift times the last base times the frames of the pace, which makes it an integer. Within a group, the gaps
go straight up or down, so its first and its last frame have the least and the greatest one.
"""

from math import gcd

from labelmoves.checks import check_number, is_integer, is_integer_within, is_number
from labelmoves.errors import InvalidBound, InvalidPace
from labelmoves.houses import check_house
from labelmoves.rounds import rounds_until_above

GREATEST_IN_PACE = 10 ** 6


def check_pace(given):
    """Raise InvalidPace unless this is a pace."""
    if not isinstance(given, tuple) or len(given) != 2:
        raise InvalidPace(given)
    if not all([is_integer_within(number, 1, GREATEST_IN_PACE) for number in given]):
        raise InvalidPace(given)


def check_bound(given):
    """Raise InvalidBound unless this is a fraction that is not below 0."""
    if not isinstance(given, tuple) or len(given) != 2:
        raise InvalidBound(given)
    number, parts = given
    if not is_number(number) or not is_integer(parts) or parts < 1 or gcd(number, parts) > 1:
        raise InvalidBound(given)


def gap_at(house, pace, frame):
    """The gap for this frame."""
    frames, seconds = pace
    return house.place(frame) * frames - frame * seconds * house.bases[-1]


def gap_of_round(house, pace):
    """By how much the gaps are greater after a round."""
    groups, many = house.round
    frames, seconds = pace
    return (groups * frames - many * seconds) * house.bases[-1]


def drift_of_gap(house, pace, gap):
    """The drift that is this gap, as a fraction."""
    whole = house.bases[-1] * pace[0]
    common = gcd(gap, whole)
    return gap // common, whole // common


def ends_of_groups(house):
    """The pairs of the first and the last frame of the groups of the first round."""
    base = house.bases[-1]
    starts = house.frames_at(list(range(0, (house.round[0] + 1) * base, base)), "next")
    return [(start, behind - 1) for start, behind in zip(starts, starts[1:])]


def drift(house, pace, frame):
    """The drift for this frame, a fraction."""
    check_house(house)
    check_pace(pace)
    check_number(frame)
    return drift_of_gap(house, pace, gap_at(house, pace, frame))


def swing(house, pace):
    """The least and the greatest drift, each with the least frame that has it; None if no bound holds."""
    check_house(house)
    check_pace(pace)
    if gap_of_round(house, pace) != 0:
        return None
    frames = [frame for ends in ends_of_groups(house) for frame in ends]
    gaps = [gap_at(house, pace, frame) for frame in frames]
    least, greatest = min(gaps), max(gaps)
    return (
        drift_of_gap(house, pace, least), frames[gaps.index(least)],
        drift_of_gap(house, pace, greatest), frames[gaps.index(greatest)],
    )


def first_above(house, pace, sign, bound):
    """The least frame whose gap, times the sign, is above the bound, None if there is none."""
    growth = sign * gap_of_round(house, pace)
    found = []
    for first, last in ends_of_groups(house):
        peak = max(sign * gap_at(house, pace, first), sign * gap_at(house, pace, last))
        rounds = rounds_until_above(peak, growth, bound)
        if rounds is not None:
            ahead = rounds * house.round[1]
            found.append((ahead + first, ahead + last))
    if not found:
        return None
    first, last = min(found)
    return min([frame for frame in range(first, last + 1) if sign * gap_at(house, pace, frame) > bound])


def first_beyond(house, pace, bound):
    """The least frame whose drift, or its opposite, is above the bound, None if there is none."""
    check_house(house)
    check_pace(pace)
    check_bound(bound)
    # Gaps are integers, so those above the whole part are those above the bound.
    most = bound[0] * house.bases[-1] * pace[0] // bound[1]
    found = [first_above(house, pace, sign, most) for sign in (1, -1)]
    return min([frame for frame in found if frame is not None], default=None)
