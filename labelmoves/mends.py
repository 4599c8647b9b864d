"""What shows that a wish does not hold for a move, and which exchanges of steps mend the move."""

from itertools import combinations

from labelmoves.checks import is_integer_within
from labelmoves.errors import InvalidExchanges, InvalidSteps, TooLong
from labelmoves.limits import MOST_EXCHANGES
from labelmoves.moves import Move, check_move
from labelmoves.wishes import read_wish, read_wishes


def shown_against(move, wish):
    """The least frame that shows that the wish does not hold for the move, None if it holds."""
    check_move(move)
    return read_wish(wish).against(move)


def is_exchange(move, value):
    """Whether the value is an exchange of a step of the move."""
    if not isinstance(value, tuple) or len(value) != 2:
        return False
    index, step = value
    return is_integer_within(index, 0, len(move) - 1) and isinstance(step, tuple)


def check_exchanges(move, exchanges):
    """Raise InvalidExchanges unless these are exchanges of steps of the move."""
    if not isinstance(exchanges, tuple) or len(exchanges) > MOST_EXCHANGES:
        raise InvalidExchanges(None)
    for index, exchange in enumerate(exchanges):
        if not is_exchange(move, exchange):
            raise InvalidExchanges(index)


def is_lot(exchanges, lot):
    """Whether the exchanges with these indexes are of steps at different indexes."""
    return len({exchanges[at][0] for at in lot}) == len(lot)


def is_part_of(smaller, lot):
    """Whether each index of the smaller lot is one of the other."""
    return all([at in lot for at in smaller])


def exchanged(move, exchanges, lot):
    """The steps of the move with the exchanges that have these indexes."""
    steps = list(move.steps)
    for at in lot:
        index, step = exchanges[at]
        steps[index] = step
    return tuple(steps)


def holds_all(houses, steps, wishes):
    """Whether there is such a move for which all wishes can be asked and hold."""
    try:
        move = Move(houses, steps)
        return all([wish.against(move) is None for wish in wishes])
    except (InvalidSteps, TooLong):
        return False


def mending(move, exchanges, wishes):
    """All least lots of exchanges with which all wishes hold, ordered by length, then as tuples."""
    check_move(move)
    check_exchanges(move, exchanges)
    read = read_wishes(wishes)
    found = []
    for many in range(len(exchanges) + 1):
        for lot in combinations(range(len(exchanges)), many):
            # A lot is only a least one if no smaller one within it mends already.
            if not is_lot(exchanges, lot) or any([is_part_of(smaller, lot) for smaller in found]):
                continue
            if holds_all(move.houses, exchanged(move, exchanges, lot), read):
                found.append(lot)
    return tuple(found)
