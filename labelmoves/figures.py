"""Numbers from 0 on, written in decimal figures, however many they are.

Python's own `str` and `int` refuse numbers of more than 4300 figures.
"""


def written_number(number):
    """The figures of a number, without needless zeros."""
    parts = []
    while number >= 10 ** 60:
        number, rest = divmod(number, 10 ** 60)
        parts.append(str(rest).zfill(60))
    parts.append(str(number))
    return "".join(reversed(parts))


def has_figures_alone(word):
    """Whether the word is made of one or more of the figures 0 to 9."""
    return word.isascii() and word.isdigit()


def worth(figures):
    """The number that figures write, zeros in front included."""
    number = 0
    for figure in figures:
        number = 10 * number + int(figure)
    return number


def read_number(word):
    """The number that is written so, or None if none is: needless zeros are not allowed."""
    if not has_figures_alone(word) or (word.startswith("0") and word != "0"):
        return None
    return worth(word)
