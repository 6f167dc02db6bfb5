"""The bounds that more than one part of the program keeps to."""

MOST = 2000
BIG = 10 ** 30

MOST_LETTERS = 6
MOST_PERSONS = 12
MOST_CALLS = 400
MOST_COUNTED_CALLS = 30
MOST_STANDS = 20000
MOST_WEIGHT = 1000
MOST_TORN = 30
MOST_BOOK = 40
MOST_DRAWN = 60


def is_whole(thing, low, high):
    """Whether a thing of any kind is a whole number from LOW to HIGH."""
    # Truths are ints to Python, but no whole numbers here.
    return isinstance(thing, int) and not isinstance(thing, bool) and low <= thing <= high
