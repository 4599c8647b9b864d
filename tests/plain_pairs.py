"""Pairs of moves, as in plain_moves, and their distances told frame by frame."""

from random import Random

from plain_moves import plain_first, plain_through, plain_value, random_move, random_step


def near(random, move):
    """A move with one step more or less, or with another one, that stays in the house in which it begins."""
    houses, steps = move
    while True:
        index = random.randint(0, len(steps))
        at = 0
        for step in steps[:index]:
            at = step[1] if step[0] in ("read", "call") else at
        new = random_step(random, houses, at, 9)
        old = steps[index:index + 1]
        if any(step[0] in ("read", "call") for step in (new, *old)):
            continue
        ahead, behind = steps[:index], steps[index + len(old):]
        other = houses, random.choice((ahead + (new,) + behind, ahead + (new,) + old + behind, ahead + behind))
        if plain_through(other, most=90) is not None and plain_value(*other, 60) is not None:
            return other


def pairs(seed, many, longest=300):
    """Pairs of moves for which so small a number goes through both; every second time both are nearly the same."""
    random = Random(seed)
    told = []
    while len(told) < many:
        one = random_move(random, most=5)
        other = near(random, one) if len(told) % 2 else random_move(random, most=5)
        if plain_through(one, other, most=longest) is not None:
            told.append((one, other))
    return told


class Told:
    """The values of both moves, frame by frame, for some common rounds behind both first frames."""

    def __init__(self, one, other, rounds=6):
        self.many = plain_through(one, other)
        self.first = max(plain_first(*one), plain_first(*other))
        self.frames = range(self.first + rounds * self.many)
        self.values = [(plain_value(*one, frame), plain_value(*other, frame)) for frame in self.frames]
        self.apart = [left - right for left, right in self.values[self.first:]]
        self.growth = self.apart[self.many] - self.apart[0]

    def distances(self):
        return list(enumerate(self.apart, start=self.first))
