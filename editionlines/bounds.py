"""How many things the objects of this package have at most."""

LINES = 6
RELEASES = 60
DAYS = 200
DEEDS = 1000
