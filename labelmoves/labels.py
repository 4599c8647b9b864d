"""Labels of given bases: their order, their places and their texts."""

from labelmoves.checks import is_integer_within, is_number
from labelmoves.figures import has_figures_alone, worth, written_number


def is_label(bases, value):
    """Whether the value is a label of these bases."""
    if not isinstance(value, tuple) or len(value) != len(bases) + 1:
        return False
    bounded = [is_integer_within(number, 0, base - 1) for base, number in zip(bases, value[1:])]
    return is_number(value[0]) and all(bounded)


def place_of(bases, label):
    """How many labels there are below this one."""
    place = label[0]
    for base, number in zip(bases, label[1:]):
        place = place * base + number
    return place


def label_at(bases, place):
    """The label that has this place."""
    numbers = []
    for base in reversed(bases):
        place, number = divmod(place, base)
        numbers.append(number)
    numbers.append(place)
    return tuple(reversed(numbers))


def written_label(bases, label):
    """The text of a label."""
    words = [written_number(label[0])]
    for base, number in zip(bases, label[1:]):
        words.append(str(number).zfill(len(str(base - 1))))
    return ":".join(words)


def read_label(bases, text):
    """The label of these bases that has this text, or None if none has."""
    words = text.split(":")
    if not all([has_figures_alone(word) for word in words]):
        return None
    label = tuple([worth(word) for word in words])
    # A label has one text, so needless and missing zeros show in the comparison.
    if is_label(bases, label) and written_label(bases, label) == text:
        return label
    return None
