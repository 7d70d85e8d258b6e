"""Spots and points seen in fewer directions, and walls led back to all of them."""

from heapsmeet.spots import spot_at


def shadow_spot(spot, kept):
    """The spot that lies, in the kept directions, where the spot lies in them."""
    return spot_at([spot[at] for at in kept], spot[-1])


def shadow(points, kept):
    """The shadows of the points, in order."""
    return [shadow_spot(point, kept) for point in points]


def led_back(wall, kept, directions):
    """The wall of so many directions whose sum at a spot is that of the wall at its shadow."""
    row, most = wall
    numbers = dict(zip(kept, row))
    return tuple(numbers.get(at, 0) for at in range(directions)), most
