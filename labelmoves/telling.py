"""Telling houses of a menu from labels that were seen."""

from labelmoves.checks import check_number, is_integer_within, is_number
from labelmoves.errors import InvalidMenu, InvalidNumber, InvalidSeen
from labelmoves.houses import House

MOST_IN_MENU = 20
GREATEST_LOOK = 10000


def check_menu(menu):
    """Raise InvalidMenu unless this is a menu of houses."""
    if not isinstance(menu, tuple) or not 1 <= len(menu) <= MOST_IN_MENU:
        raise InvalidMenu(None)
    for index, house in enumerate(menu):
        if not isinstance(house, House):
            raise InvalidMenu(index)


def is_sight(value):
    """Whether the value is a pair of a frame and a text."""
    return isinstance(value, tuple) and len(value) == 2 and is_number(value[0]) and isinstance(value[1], str)


def check_seen(seen):
    """Raise InvalidSeen unless these are seen labels."""
    if not isinstance(seen, tuple):
        raise InvalidSeen(None)
    for index, sight in enumerate(seen):
        if not is_sight(sight):
            raise InvalidSeen(index)


def fits(house, seen):
    """Whether each of these frames bears the label with its text in the house."""
    return all([house.written(frame) == text for frame, text in seen])


def fitting(menu, seen):
    """The indexes of the houses in which each of these frames bears the label with its text."""
    check_menu(menu)
    check_seen(seen)
    return tuple([index for index, house in enumerate(menu) if fits(house, seen)])


def told_surely(menu, seen, frame):
    """The texts that this frame has in the fitting houses."""
    check_menu(menu)
    check_seen(seen)
    check_number(frame)
    return tuple(sorted({menu[index].written(frame) for index in fitting(menu, seen)}))


def most_alike(menu, frame):
    """How many houses give this frame the same text, the most for one text."""
    texts = [house.written(frame) for house in menu]
    return max([texts.count(text) for text in texts])


def best_look(menu, frame):
    """The least frame below this one that parts the menu best, None if there is none below."""
    check_menu(menu)
    if not is_integer_within(frame, 0, GREATEST_LOOK):
        raise InvalidNumber(frame)
    best = None
    least = len(menu) + 1
    for look in range(frame):
        most = most_alike(menu, look)
        if most < least:
            best, least = look, most
        # No frame parts the menu better than into single houses.
        if least == 1:
            break
    return best
