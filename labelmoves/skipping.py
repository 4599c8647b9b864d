"""How many labels the rows of a house skip in each group, and after how many groups this repeats.

Groups are numbered from 0 in the order of their labels.
"""

from math import lcm


def groups_in_unit(bases, field):
    """How many groups there are in a unit of the field."""
    groups = 1
    for base in bases[field:-1]:
        groups *= base
    return groups


def groups_to_repeat(bases, rows):
    """A number of groups after which all rows fit the same groups again."""
    cycle = 1
    for field, every, _ in rows:
        if field == 0:
            cycle = lcm(cycle, every)
    return groups_in_unit(bases, 0) * cycle


def fitted_groups(bases, row, groups):
    """The groups among the first ones that the row fits; `groups` is as `groups_to_repeat` tells."""
    field, every, _ = row
    step = groups_in_unit(bases, field) * every
    # The number of a later field begins again with each unit of the field ahead of it.
    span = groups if field == 0 else groups_in_unit(bases, field - 1)
    fitted = []
    for start in range(0, groups, span):
        fitted.extend(list(range(start, start + span, step)))
    return fitted


def skipped_counts(bases, rows, groups):
    """How many labels each of the first groups skips."""
    counts = [0] * groups
    for row in rows:
        # A later row takes the place of the earlier ones that fit the same group.
        for group in fitted_groups(bases, row, groups):
            counts[group] = row[2]
    return counts


def least_repeat(counts):
    """How far the list, told again and again, must at least be shifted to be the same."""
    many = len(counts)
    for step in range(1, many):
        if many % step == 0 and counts[step:] == counts[:many - step]:
            return step
    return many


def sums_ahead(numbers):
    """For each number, the sum of those ahead of it."""
    total = 0
    sums = []
    for number in numbers:
        sums.append(total)
        total += number
    return sums


def last_not_above(ascending, number):
    """The index of the last one that is not above the number; the first one is never above it."""
    low, high = 0, len(ascending)
    while high - low > 1:
        middle = (low + high) // 2
        if ascending[middle] <= number:
            low = middle
        else:
            high = middle
    return low
