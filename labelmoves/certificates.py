"""Claims for the checker, with certificates that it accepts."""

from labelmoves.comparing import distances, first_unlike, through_both
from labelmoves.lengths import first_doubled, first_missed, start_for, stretch


def certify_alike(one, other):
    """The claim that the moves are alike, or that they are not, and its certificate."""
    frame = first_unlike(one, other)
    if frame is None:
        return ("alike", str(one), str(other)), through_both(one, other)
    return ("unlike", str(one), str(other)), frame


def certify_within(one, other):
    """The claim that the distance is from the least to the greatest one, and its certificate; None without both."""
    least, greatest = distances(one, other)
    if least is None or greatest is None:
        return None
    return ("within", str(one), str(other), least, greatest), through_both(one, other)


def certify_stretch(move, many):
    """The claim that so many frames take from the least to the greatest length, and its certificate."""
    least, greatest = stretch(move, many)
    return ("stretch", str(move), many, least, greatest), move.through


def certify_missed(move):
    """The claim that the first missed frame is missed, and its certificate; None if no frame is missed."""
    frame = first_missed(move)
    if frame is None:
        return None
    return ("missed", str(move), frame), start_for(move, frame) - 1


def certify_doubled(move):
    """The claim that two frames have the same value, and its certificate; None if no two have."""
    frame = first_doubled(move)
    return None if frame is None else (("doubled", str(move)), frame)
