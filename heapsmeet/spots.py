"""Spots and points: rows of numbers over one bottom, in lowest terms."""

from heapsmeet.wholes import common_divisor, is_numbers, lessened

MOST_DIRECTIONS = 3
MOST_POINTS = 40
FARTHEST = 10000
GREATEST_BOTTOM = 60


def is_spot(thing):
    """Whether something is a spot."""
    if not is_numbers(thing) or not 2 <= len(thing) <= MOST_DIRECTIONS + 1:
        return False
    return thing[-1] >= 1 and common_divisor(thing) == 1


def is_point(thing):
    """Whether something is a spot that is a point."""
    if not is_spot(thing) or thing[-1] > GREATEST_BOTTOM:
        return False
    return all(-FARTHEST <= number <= FARTHEST for number in thing[:-1])


def is_points(thing):
    """Whether something is points: a list of them, all of the same directions."""
    if not isinstance(thing, list) or len(thing) > MOST_POINTS:
        return False
    if not all(is_point(part) for part in thing):
        return False
    return all(len(part) == len(thing[0]) for part in thing)


def spot_at(numbers, bottom):
    """The spot that lies, in each direction, at that number over the bottom."""
    sign = 1 if bottom > 0 else -1
    return lessened([sign * number for number in (*numbers, bottom)])
