"""Wishes for a move: which tuples they are, and which frames show that they do not hold."""

from labelmoves.checks import word_of
from labelmoves.comparing import first_earlier, first_outside, first_unlike
from labelmoves.errors import InvalidWish, InvalidWishes
from labelmoves.forms import read_parts
from labelmoves.lengths import first_doubled, first_missed, first_stretched

# The kinds of the parts behind the word of a wish, in order.
FORMS = {
    "alike": ("text",),
    "later": ("text",),
    "within": ("text", "integer", "integer"),
    "stretch": ("number", "integer", "integer"),
    "full": (),
    "single": (),
}


class Wish:
    """A wish whose texts have been read, so that it can be asked for many moves."""

    def __init__(self, told, parts):
        self.told = told
        self._parts = parts

    def against(self, move):
        """The least frame that shows that the wish does not hold for the move, None if it holds."""
        word = self.told[0]
        parts = self._parts
        if word == "alike":
            return first_unlike(move, parts[0])
        if word == "later":
            return first_earlier(move, parts[0])
        if word == "within":
            return first_outside(move, parts[0], parts[1], parts[2])
        if word == "stretch":
            return first_stretched(move, parts[0], parts[1], parts[2])
        return first_missed(move) if word == "full" else first_doubled(move)


def wish_of(value):
    """The wish that the value is, None if it is none."""
    kinds = FORMS.get(word_of(value))
    parts = None if kinds is None else read_parts(kinds, value)
    return None if parts is None else Wish(value, parts)


def read_wish(given):
    """The wish that this is; InvalidWish if it is none."""
    wish = wish_of(given)
    if wish is None:
        raise InvalidWish(given)
    return wish


def read_wishes(given):
    """The wishes of this tuple; InvalidWishes if it is none of wishes."""
    if not isinstance(given, tuple):
        raise InvalidWishes(None)
    wishes = []
    for index, value in enumerate(given):
        wish = wish_of(value)
        if wish is None:
            raise InvalidWishes(index)
        wishes.append(wish)
    return wishes
