"""The errors of the package.

Their messages are fixed strings, since a given value may be one that cannot be shown.
"""


class WrongValue(ValueError):
    """Something wrong was passed."""


class NotAHouse(WrongValue):
    """A value that stands where a house is asked for."""

    def __init__(self, given):
        WrongValue.__init__(self, "a house is asked for")
        self.given = given


class NotAMove(WrongValue):
    """A value that stands where a move is asked for."""

    def __init__(self, given):
        WrongValue.__init__(self, "a move is asked for")
        self.given = given


class NotAList(WrongValue):
    """A value that stands where a list of clips is asked for."""

    def __init__(self, given):
        WrongValue.__init__(self, "a list of clips is asked for")
        self.given = given


class InvalidLabel(WrongValue):
    """A value that is no label of the bases."""

    def __init__(self, given):
        WrongValue.__init__(self, "this is no label of the bases")
        self.given = given


class InvalidText(WrongValue):
    """A value that is none of the texts that are asked for."""

    def __init__(self, given):
        WrongValue.__init__(self, "this is no such text")
        self.given = given


class InvalidNumber(WrongValue):
    """A value that is no number as it is asked for."""

    def __init__(self, given):
        WrongValue.__init__(self, "this is no such number")
        self.given = given


class InvalidWay(WrongValue):
    """A value that is neither "next" nor "last"."""

    def __init__(self, given):
        WrongValue.__init__(self, "a way is next or last")
        self.given = given


class InvalidPace(WrongValue):
    """A value that is no pace."""

    def __init__(self, given):
        WrongValue.__init__(self, "this is no pace")
        self.given = given


class InvalidBound(WrongValue):
    """A value that is no fraction from 0 on."""

    def __init__(self, given):
        WrongValue.__init__(self, "a bound is a fraction from 0 on")
        self.given = given


class InvalidStep(WrongValue):
    """A value that is no step where it would stand."""

    def __init__(self, given):
        WrongValue.__init__(self, "this is no step there")
        self.given = given


class InvalidWish(WrongValue):
    """A value that is no wish."""

    def __init__(self, given):
        WrongValue.__init__(self, "this is no wish")
        self.given = given


class InvalidBases(WrongValue):
    """Bases that are none, with the index of the first wrong one."""

    def __init__(self, index):
        WrongValue.__init__(self, "these are no bases")
        self.index = index


class InvalidRows(WrongValue):
    """Rows that are none, with the index of the first wrong one."""

    def __init__(self, index):
        WrongValue.__init__(self, "these are no rows of the house")
        self.index = index


class InvalidHouses(WrongValue):
    """Houses that are none, with the index of the first wrong one."""

    def __init__(self, index):
        WrongValue.__init__(self, "these are no houses of a move")
        self.index = index


class InvalidSteps(WrongValue):
    """Steps that are none, with the index of the first wrong one."""

    def __init__(self, index):
        WrongValue.__init__(self, "these are no steps of the move")
        self.index = index


class InvalidClips(WrongValue):
    """Clips that are none, with the index of the first wrong one."""

    def __init__(self, index):
        WrongValue.__init__(self, "these are no clips")
        self.index = index


class InvalidSeen(WrongValue):
    """Seen labels that are none, with the index of the first wrong one."""

    def __init__(self, index):
        WrongValue.__init__(self, "these are no seen labels")
        self.index = index


class InvalidMenu(WrongValue):
    """A menu that is none, with the index of the first wrong house."""

    def __init__(self, index):
        WrongValue.__init__(self, "this is no menu of houses")
        self.index = index


class InvalidExchanges(WrongValue):
    """Exchanges that are none, with the index of the first wrong one."""

    def __init__(self, index):
        WrongValue.__init__(self, "these are no exchanges")
        self.index = index


class InvalidWishes(WrongValue):
    """Wishes that are none, with the index of the first wrong one."""

    def __init__(self, index):
        WrongValue.__init__(self, "these are no wishes")
        self.index = index


class WrongState(LookupError):
    """What was asked for cannot be done as things stand."""


class NothingToUndo(WrongState):
    """There is no change that can be taken back."""


class Lost(WrongState):
    """A frame that the move loses."""

    def __init__(self, given):
        WrongState.__init__(self, "the move loses this frame")
        self.given = given


class NoAnswer(ArithmeticError):
    """The question has no answer within the limits."""


class TooLong(NoAnswer):
    """A house or moves that take longer than the limit to repeat."""

    def __init__(self, limit):
        NoAnswer.__init__(self, "this repeats too late")
        self.limit = limit


class Broken(NoAnswer):
    """A wish that does not hold, with the frame that shows it."""

    def __init__(self, index, shown):
        NoAnswer.__init__(self, "a wish does not hold")
        self.index = index
        self.shown = shown
