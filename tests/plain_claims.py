"""Claims for the checker once more, straight from the words of the document: slow, and without the program.

A claim has a pair of houses and steps, as in plain_moves, where the program's has a text.
"""

from plain_moves import plain_becoming
from plain_wishes import first, is_doubled, is_missed, shows, value

# The claims with the opposite meaning, by the words of those that a number certifies.
OPPOSITES = {"alike": "unlike", "later": "earlier", "within": "beyond", "stretch": "stretched"}
THE_SAME = {opposite: word for word, opposite in OPPOSITES.items()}


def opposite(claim):
    """The claim with the opposite meaning."""
    return ({**OPPOSITES, **THE_SAME}[claim[0]], *claim[1:])


def breaks(claim, frame):
    """Whether the frame shows that the claim, one that a number certifies, does not hold."""
    return shows(claim[1], (claim[0], *claim[2:]), frame)


def moves_of(claim):
    return [part for part in claim if isinstance(part, tuple)]


def plain_goes_through(claim, number):
    """Whether the number goes through the moves of the claim and becomes what the claim asks for."""
    becoming = [plain_becoming(*move, number) for move in moves_of(claim)]
    if None in becoming:
        return False
    return becoming[0] >= becoming[-1] if claim[0] == "later" else becoming[0] == becoming[-1]


def plain_accepts(claim, certificate):
    """Whether the number or frame is a certificate for the claim."""
    word, move = claim[:2]
    if word in THE_SAME:
        return breaks(opposite(claim), certificate)
    if word == "missed":
        below, behind = value(*move, certificate), value(*move, certificate + 1)
        return is_missed(move, claim[2]) and below is not None and below < claim[2] <= behind
    if word == "doubled":
        return is_doubled(move, certificate)
    if not 1 <= certificate <= 20000 or not plain_goes_through(claim, certificate):
        return False
    firsts = [first(*move) for move in moves_of(claim)]
    if word == "alike" and firsts[0] != firsts[1]:
        return False
    return not any(breaks(claim, frame) for frame in range(max(firsts), max(firsts) + certificate))
