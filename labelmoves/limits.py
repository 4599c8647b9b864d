"""The greatest numbers that the package takes, as the interface lists them."""

MOST_BASES = 3
MOST_ROWS = 6
MOST_GROUPS = 7200
MOST_HOUSES = 3
MOST_STEPS = 8
MOST_ROUND = 20000
MOST_CLIPS = 20
MOST_EXCHANGES = 6
