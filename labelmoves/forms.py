"""Tuples of a word and the parts behind it, as wishes and claims are: what their parts stand for.

A part is of one of three kinds: a `text` of a move, an `integer`, or a `number`, which is an integer from 0 on.
"""

from labelmoves.checks import is_integer, is_number
from labelmoves.errors import InvalidText
from labelmoves.moves import Move


def read_move(value):
    """The move with this text, None if the value is no text of a move."""
    try:
        return Move.read(value)
    except InvalidText:
        return None


def read_part(kind, value):
    """What the part stands for: a text for its move, an integer for itself; None if it is not of this kind."""
    if kind == "text":
        return read_move(value)
    fits = is_number(value) if kind == "number" else is_integer(value)
    return value if fits else None


def read_parts(kinds, value):
    """What the parts behind the word of the tuple stand for, None if there are others than of these kinds."""
    if len(value) != len(kinds) + 1:
        return None
    parts = [read_part(kind, part) for kind, part in zip(kinds, value[1:])]
    return None if any([part is None for part in parts]) else parts
