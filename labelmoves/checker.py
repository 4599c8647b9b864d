"""The checker: which certificates show that claims about moves are true.

A claim that speaks of all frames is certified by a number that goes through its moves: what holds for so many frames
holds for all of them. A claim with the opposite meaning is certified by a frame that shows it.
"""

from labelmoves.checks import is_number, word_of
from labelmoves.forms import read_parts
from labelmoves.limits import MOST_ROUND

# The kinds of the parts behind the word of a claim, in order.
FORMS = {
    "alike": ("text", "text"),
    "later": ("text", "text"),
    "within": ("text", "text", "integer", "integer"),
    "stretch": ("text", "number", "integer", "integer"),
    "unlike": ("text", "text"),
    "earlier": ("text", "text"),
    "beyond": ("text", "text", "integer", "integer"),
    "stretched": ("text", "number", "integer", "integer"),
    "missed": ("text", "number"),
    "doubled": ("text",),
}


def becoming(move, number):
    """What the number becomes that goes through the move, None if it is too great or does not go through."""
    return move.becoming(number) if 1 <= number <= MOST_ROUND else None


def become_the_same(number, one, other):
    """Whether the number goes through both moves and becomes the same number in both."""
    goal = becoming(one, number)
    return goal is not None and goal == becoming(other, number)


def distance(one, other, frame):
    """The distance for this frame, None if one of the moves loses it."""
    left, right = one.of(frame), other.of(frame)
    return None if left is None or right is None else left - right


def distances_told(number, one, other):
    """The distances for so many frames from the first one on that neither move loses."""
    first = max(one.first, other.first)
    return [distance(one, other, frame) for frame in range(first, first + number)]


def difference(move, many, frame):
    """The value for the frame that is so many behind, less that for this frame, None if this frame is lost."""
    start = move.of(frame)
    return None if start is None else move.of(frame + many) - start


def are_within(numbers, low, high):
    """Whether all numbers are from `low` to `high`."""
    return all([low <= number <= high for number in numbers])


def is_beyond(number, low, high):
    """Whether there is a number, and it is not from `low` to `high`."""
    return number is not None and not low <= number <= high


def alike(number, one, other):
    """Whether the number certifies that the moves are alike."""
    if one.first != other.first or not become_the_same(number, one, other):
        return False
    return are_within(distances_told(number, one, other), 0, 0)


def later(number, one, other):
    """Whether the number certifies that `one` is never earlier."""
    goal, least = becoming(one, number), becoming(other, number)
    if goal is None or least is None or goal < least:
        return False
    return min(distances_told(number, one, other)) >= 0


def within(number, one, other, low, high):
    """Whether the number certifies that the distance is always from `low` to `high`."""
    return become_the_same(number, one, other) and are_within(distances_told(number, one, other), low, high)


def stretch(number, move, many, low, high):
    """Whether the number certifies that so many frames always take from `low` to `high` frames."""
    if becoming(move, number) is None:
        return False
    frames = range(move.first, move.first + number)
    return are_within([difference(move, many, frame) for frame in frames], low, high)


def unlike(frame, one, other):
    """Whether the frame shows that the moves are not alike."""
    return one.of(frame) != other.of(frame)


def earlier(frame, one, other):
    """Whether the frame shows that `one` is earlier."""
    apart = distance(one, other, frame)
    return apart is not None and apart < 0


def beyond(frame, one, other, low, high):
    """Whether the frame shows a distance that is not from `low` to `high`."""
    return is_beyond(distance(one, other, frame), low, high)


def stretched(frame, move, many, low, high):
    """Whether so many frames from this one on do not take from `low` to `high` frames."""
    return is_beyond(difference(move, many, frame), low, high)


def missed(frame, move, goal):
    """Whether the frame leads below the goal, and the one behind it leads above."""
    value = move.of(frame)
    return value is not None and value < goal < move.of(frame + 1)


def doubled(frame, move):
    """Whether the frame and the one behind it have the same value."""
    value = move.of(frame)
    return value is not None and value == move.of(frame + 1)


CHECKS = {
    "alike": alike,
    "later": later,
    "within": within,
    "stretch": stretch,
    "unlike": unlike,
    "earlier": earlier,
    "beyond": beyond,
    "stretched": stretched,
    "missed": missed,
    "doubled": doubled,
}


def accepts(claim, certificate):
    """Whether the claim is one for the checker, and the certificate is one for it."""
    kinds = FORMS.get(word_of(claim))
    if kinds is None or not is_number(certificate):
        return False
    parts = read_parts(kinds, claim)
    if parts is None:
        return False
    check = CHECKS[claim[0]]
    return check(certificate, *parts)
