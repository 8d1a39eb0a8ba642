"""The limits of the program."""

MOST_SIDE = 10 ** 6
MOST_STEPS = 60
MOST_RECORDS = 40
MOST_DEEDS = 400
