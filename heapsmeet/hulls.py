"""The checkers of a spot within and of a spot without points."""

from heapsmeet.shares import is_shares, mixed
from heapsmeet.wholes import is_number, is_numbers, is_row, sum_of_products


def within_holds(points, spot, thing):
    """Whether something is a paper of the spot within the points."""
    if not is_shares(len(points), thing) or len(thing) > len(spot):
        return False
    return mixed(points, thing) == spot


def is_side(directions, thing):
    """Whether something is a pair (row, t) in so many directions; the row may be noughts alone."""
    if not is_row(2, thing):
        return False
    row, most = thing
    return is_numbers(row) and len(row) == directions and is_number(most)


def is_wall(directions, thing):
    """Whether something is a wall in so many directions."""
    return is_side(directions, thing) and any(thing[0])


def is_beyond(wall, spot):
    """Whether the sum at the spot of the wall, or of a row of noughts, is above its t."""
    row, most = wall
    return sum_of_products(row, spot[:-1]) > most * spot[-1]


def without_holds(points, spot, thing):
    """Whether something is a paper of the spot without the points."""
    if not is_wall(len(spot) - 1, thing) or not is_beyond(thing, spot):
        return False
    return not any(is_beyond(thing, point) for point in points)
