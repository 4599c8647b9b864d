"""Numbers that grow by the same amount in each round: after how many rounds they are where they are asked for."""


def rounds_until_above(number, growth, bound):
    """After how many rounds the number is first above the bound, None if it never is."""
    if number > bound:
        return 0
    if growth <= 0:
        return None
    return (bound - number) // growth + 1


def rounds_until_at(number, growth, goal):
    """After how many rounds the number is first the goal, None if it never is."""
    if growth == 0:
        return 0 if number == goal else None
    rounds, rest = divmod(goal - number, growth)
    return rounds if rest == 0 and rounds >= 0 else None
