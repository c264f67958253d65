"""The bounds of runs (point 15)."""

from metorshut.errors import BadBounds

BOUNDS = (24, 4, 4, 8)
NAMES = ("steps", "depth", "objects", "bits")
LEAST = (1, 1, 0, 0)
GREATEST = (32, 8, 8, 12)


def check_bounds(bounds):
    """None if these are bounds; raises BadBounds otherwise."""
    if not isinstance(bounds, tuple) or len(bounds) != len(NAMES):
        raise BadBounds()
    for bound, least, greatest in zip(bounds, LEAST, GREATEST):
        if not isinstance(bound, int) or isinstance(bound, bool):
            raise BadBounds()
        if not least <= bound <= greatest:
            raise BadBounds()
