"""The bounds that more than one part of the program keeps to."""

MOST = 2000
BIG = 10 ** 30

MOST_LETTERS = 6
MOST_PERSONS = 12
