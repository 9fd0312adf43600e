"""The bounds of modules and runs [5, 9, 10]."""


class Limits:
    """How much of each sort there can be at most."""

    MOST_KINDS = 8
    MOST_FIELDS = 6
    MOST_FUNCTIONS = 8
    MOST_PARAMETERS = 4
    MOST_BLOCKS = 12
    MOST_BLOCK_PARAMETERS = 6
    MOST_INSTRUCTIONS = 40
    MOST_PLACES = 120
    MOST_ELEMENTS = 60
    MOST_STEPS = 20000
    MOST_CALLS = 40
