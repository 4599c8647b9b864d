"""How long clips become by a move, and which frames it misses or doubles."""

from labelmoves.checks import check_number
from labelmoves.moves import check_move


def round_of_values(move):
    """The values for the frames of the first round, and for the frame behind it."""
    return [move.of(frame) for frame in range(move.first, move.first + move.round[0] + 1)]


def differences_over(move, many):
    """The differences between the values for two frames that are so many apart, for each start in the first round."""
    # Whole rounds stretch alike everywhere, so the first round shows all differences.
    starts = range(move.first, move.first + move.round[0])
    return [move.of(start + many) - move.of(start) for start in starts]


def stretch(move, many):
    """The least and the greatest difference between the values for two frames that are so many apart."""
    check_move(move)
    check_number(many)
    differences = differences_over(move, many)
    return min(differences), max(differences)


def first_stretched(move, many, low, high):
    """The least frame, not lost, whose difference to so many frames behind is not from `low` to `high`, or None."""
    for at, difference in enumerate(differences_over(move, many)):
        if not low <= difference <= high:
            return move.first + at
    return None


def first_missed(move):
    """The least frame above the first value that is not a value, None if there is none."""
    check_move(move)
    values = round_of_values(move)
    for value, later in zip(values, values[1:]):
        if later > value + 1:
            return value + 1
    return None


def times_missed(move, frame):
    """How many frames below this one are above the first value and not a value."""
    check_move(move)
    check_number(frame)
    least = move.of(move.first)
    if frame <= least:
        return 0
    growth = move.round[1]
    # Each value of the first round once, without the one that begins the next round.
    values = sorted(set(round_of_values(move)))[:-1]
    rounds, rest = divmod(frame - least, growth)
    reached = rounds * len(values) + len([value for value in values if value < least + rest])
    return frame - least - reached


def first_doubled(move):
    """The least frame that has the same value as the one behind it, None if there is none."""
    check_move(move)
    values = round_of_values(move)
    for at, value in enumerate(values[:-1]):
        if values[at + 1] == value:
            return move.first + at
    return None


def start_for(move, frame):
    """The least frame whose value is at least this one."""
    check_move(move)
    check_number(frame)
    return move.reaching(frame)
