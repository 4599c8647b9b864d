"""Houses once more, straight from the words of the document: slow, and without the program.

A house is here a pair of bases and rows, and frames are counted one by one.
"""

from itertools import product
from math import lcm, prod

DROP = ((60, 60, 30), ((1, 1, 2), (1, 10, 0)))
SMALL = ((2, 3), ((0, 1, 1),))

HOUSES = (
    ((2,), ()),
    ((60,), ()),
    ((2,), ((0, 1, 1),)),
    ((7,), ((0, 1, 2), (0, 3, 6), (0, 6, 0))),
    ((11,), ((0, 2, 3), (0, 4, 0), (0, 3, 10), (0, 1, 1), (0, 6, 4), (0, 5, 2))),
    ((2, 2), ((1, 1, 1), (0, 2, 0))),
    ((2, 3), ()),
    SMALL,
    ((2, 3), ((0, 2, 1),)),
    ((2, 3), ((1, 1, 1),)),
    ((10, 11), ((1, 3, 9), (0, 2, 1), (1, 7, 4))),
    ((11, 10), ((0, 3, 9), (1, 2, 2), (0, 4, 0), (1, 60, 3))),
    ((60, 24), ((0, 1, 2), (1, 10, 1))),
    ((2, 3, 4), ((0, 3, 2), (1, 1, 1), (2, 2, 3), (1, 2, 0), (0, 1, 3), (2, 3, 1))),
    ((5, 4, 7), ((1, 2, 6), (2, 3, 2), (0, 5, 0))),
    ((6, 2, 60), ((2, 1, 59), (1, 4, 1))),
    ((3, 60, 2), ((1, 1, 1), (2, 10, 0))),
)


def is_skipped(rows, label):
    """Whether these rows skip the label: the last row that fits its group decides."""
    first = 0
    for field, every, count in rows:
        if label[field] % every == 0 and all(number == 0 for number in label[field + 1:-1]):
            first = count
    return label[-1] < first


def labels_below(bases, many):
    """In order, all labels whose number 0 is below this one."""
    return list(product(range(many), *[range(base) for base in bases]))


def repeating_units(bases, rows):
    """How many units of field 0 it takes at most until the skipping repeats."""
    return lcm(*[every for field, every, _ in rows if field == 0])


def groups_summed(bases, rows):
    """The sum that the interface compares with 7200."""
    return prod(bases[:-1]) * repeating_units(bases, rows)


def skips_by_group(bases, rows, units):
    """How many labels each group in the first units of field 0 skips."""
    groups = product(range(units), *[range(base) for base in bases[:-1]])
    return [sum(is_skipped(rows, group + (last,)) for last in range(bases[-1])) for group in groups]


def plain_round(bases, rows):
    """The round, by asking each number of groups in turn."""
    skips = skips_by_group(bases, rows, 2 * repeating_units(bases, rows))
    whole = len(skips) // 2
    for groups in range(1, whole + 1):
        if all(skips[at] == skips[at + groups] for at in range(whole)):
            return groups, groups * bases[-1] - sum(skips[:groups])


def plain_text(bases, label):
    """The text of a label, by the figures of the greatest number that can stand there."""
    words = [str(label[0])]
    for base, number in zip(bases, label[1:]):
        figures = len(str(base - 1))
        words.append("0" * (figures - len(str(number))) + str(number))
    return ":".join(words)
