"""Values of other kinds, for wherever an error is told."""


class Agreeing:
    """Says that it equals anything."""

    def __eq__(self, other):
        return True

    def __ne__(self, other):
        return False


class Refusing:
    """Cannot be compared, counted, shown or tested."""

    def __eq__(self, other):
        raise RuntimeError("not to be compared")

    def __len__(self):
        raise RuntimeError("not to be counted")

    def __bool__(self):
        raise RuntimeError("not to be tested")

    def __repr__(self):
        raise RuntimeError("not to be shown")

    def __iter__(self):
        raise RuntimeError("not to be gone through")


def nested(depth):
    """A tuple within a tuple within a tuple .."""
    value = ()
    for _ in range(depth):
        value = (value,)
    return value


# No integer, no string and no tuple of integers is among them.
OTHER_KINDS = (
    None, b"", b"next", b"0:0", [], [2, 3], {}, {"next": 1}, {2: 3}, set(), {2, 3}, frozenset((2, 3)),
    object(), Agreeing(), Refusing(), len, int, nested(3), nested(50), ((2, 3), (2, 3)), (None,), ("2", "3"),
    ([2], [3]), (Refusing(), Agreeing()), range(3), 2j,
)
TRUTHS = (True, False)
STRINGS = ("", "0", "1", "2", "next ", "Next", "NEXT", "next\n", "nextlast", "first", "back", "house", "\n", "x" * 19999)
TUPLES_OF_INTEGERS = ((), (0,), (2, 3), (2, 3, 4), (2, 3, 4, 5, 6), (-1, -1))
INTEGERS_BELOW = (-1, -2, -10 ** 40, -10 ** 60)
