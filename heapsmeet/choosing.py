"""A rainbow round a spot: a point of each colour, chosen so that they are mixed to it."""

from heapsmeet.exchanges import exchanged
from heapsmeet.places import arrow_to, scale_to, scaled


def rainbow(points, colours, spot):
    """A paper of a rainbow round the spot."""
    # The arrows of a colour come to nought just where the spot lies in its hull.
    arrows = [[arrow_to(points[k], spot) for k in colour] for colour in colours]
    chosen, shares = exchanged(arrows)[-1]
    choice = tuple(colour[at] for colour, at in zip(colours, chosen))
    return choice, scaled(shares, [scale_to(points[k], spot) for k in choice])
