"""Rooms: a move that changes, and wishes that hold for it after each change."""

from labelmoves.checks import is_integer_within
from labelmoves.errors import Broken, InvalidNumber, NothingToUndo
from labelmoves.moves import check_move
from labelmoves.wishes import read_wish


class Stage:
    """What a room holds between two changes: a move, and the wishes that hold for it."""

    def __init__(self, current, wanted):
        self.current = current
        self.wanted = wanted


class Saved:
    """The stages of a room when a trial began, and what its object had saved before."""

    def __init__(self, stages, outer):
        self.stages = stages
        self.outer = outer


class Trial:
    """A statement after which the room is as it was, if an exception leaves it."""

    def __init__(self, room):
        self._room = room
        self._saved = None

    def __enter__(self):
        # One object may stand within itself, so what is saved lies upon what it had saved before.
        self._saved = Saved(self._room._stages, self._saved)
        return self._room

    def __exit__(self, kind, value, trace):
        if kind is not None:
            self._room._stages = self._saved.stages
        self._saved = self._saved.outer


def check_wanted(move, wanted):
    """Raise Broken for the first wish that does not hold for the move, TooLong if it cannot be asked."""
    for index, wish in enumerate(wanted):
        shown = wish.against(move)
        if shown is not None:
            raise Broken(index, shown)


class Room:
    """A move and wishes, which hold after each change."""

    def __init__(self, move):
        check_move(move)
        # A tuple that is never changed, so that a trial has saved it by keeping it.
        self._stages = (Stage(move, ()),)

    @property
    def move(self):
        """The move as it is now."""
        return self._stages[-1].current

    @property
    def wishes(self):
        """The tuple of the wishes."""
        return tuple([wish.told for wish in self._stages[-1].wanted])

    @property
    def changes(self):
        """How many changes can be taken back."""
        return len(self._stages) - 1

    def put(self, index, step):
        """Put another step in the place of the one with this index."""
        self._become(self.move.with_step(index, step))

    def add(self, step):
        """Add a step."""
        self._become(self.move.then(step))

    def wish(self, wish):
        """Add a wish."""
        wanted = self._stages[-1].wanted + (read_wish(wish),)
        check_wanted(self.move, wanted)
        self._change(self.move, wanted)

    def lift(self, index):
        """Take the wish with this index away."""
        wanted = self._stages[-1].wanted
        if not is_integer_within(index, 0, len(wanted) - 1):
            raise InvalidNumber(index)
        self._change(self.move, wanted[:index] + wanted[index + 1:])

    def undo(self):
        """Take back the last change that has not been taken back."""
        if self.changes == 0:
            raise NothingToUndo()
        self._stages = self._stages[:-1]

    def trial(self):
        """An object for a `with` statement, after which the room is as it was if an exception leaves it."""
        return Trial(self)

    def tried(self, action):
        """What the function returns, called with the room within a trial."""
        with self.trial() as room:
            return action(room)

    def _become(self, move):
        """Change the move, if all wishes hold for the new one."""
        wanted = self._stages[-1].wanted
        check_wanted(move, wanted)
        self._change(move, wanted)

    def _change(self, move, wanted):
        """Change to this move and these wishes, which hold for it."""
        self._stages = self._stages + (Stage(move, wanted),)
