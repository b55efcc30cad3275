"""Values that stand for themselves where nothing else is asked for."""

WIDTH = (1, 1000)
TRIES = ((0, 1), (1, 1), (-1, 1), (2, 1), (1, 2))
