"""How much of each thing there may be."""

PLACES = 60
SHORT = 8
MOST = 2000
HIDDEN = 4
WORD = 2000
GONE = 60
