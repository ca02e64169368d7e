"""The limits of networks and joins."""

MAX_NODES = 40
MAX_EDGES = 100
MAX_LENGTH = 1000000
MAX_ODD = 10
MAX_JOIN = 4
