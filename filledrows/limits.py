"""The greatest numbers that the program deals with."""

MOST_LAYERS = 4
MOST_NEAR = 3
MOST_EVERY = 3
MOST_PLACES = 60
MOST_ROUNDS = 6
MOST_WIDTH = 8
MOST_EVER = 4
