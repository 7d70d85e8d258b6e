"""The depth of a spot, with a cut that shows it; and a spot that lies deep."""

from heapsmeet.cuts import shows
from heapsmeet.errors import NoDepth, TooFew
from heapsmeet.heaps import heaps
from heapsmeet.places import arrow_to
from heapsmeet.wholes import lessened, sum_of_products


def cuts_beside(arrow, arrows):
    """Four cuts a little beside the arrow's line: each shows one side of it and one of its ends.

    Whole arrows beside the line have a sum of 1 at least, or -1 at most, with a
    row square to it. That row, times more than any arrow has along the line,
    leaves the arrows on their sides, whatever the end that is added.
    """
    steep = 1 + max(abs(sum_of_products(arrow, other)) for other in arrows)
    square = (-arrow[1], arrow[0])
    return [
        lessened([side * steep * across + end * along for across, along in zip(square, arrow)])
        for side in (1, -1)
        for end in (1, -1)
    ]


def plane_cuts(points, spot):
    """Cuts of which one shows the least number that any cut shows, in a plane."""
    arrows = [arrow_to(point, spot) for point in points]
    elsewhere = [arrow for arrow in arrows if any(arrow)]
    # Where all points lie at the spot each cut shows them.
    return [cut for arrow in elsewhere for cut in cuts_beside(arrow, elsewhere)] or [(1, 0)]


def depth(points, spot):
    """The least number of points that any cut shows, and a cut that shows just so many."""
    directions = len(spot) - 1
    if directions > 2:
        raise NoDepth()
    cuts = [(1,), (-1,)] if directions == 1 else plane_cuts(points, spot)
    found = min(cuts, key=lambda cut: shows(points, spot, cut))
    return shows(points, spot, found), found


def deep(points):
    """A paper of as many heaps as make its spot sure to lie deep."""
    if not points:
        raise TooFew()
    # A point has d + 1 numbers; this is the least number that, times them, is no less than the points.
    width = len(points[0])
    return heaps(points, (len(points) + width - 1) // width)
