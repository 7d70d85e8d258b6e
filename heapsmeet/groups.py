"""Groups of points: the checkers of a spot that they share and of groups apart."""

from heapsmeet.hulls import is_beyond, is_side
from heapsmeet.shares import is_shares, mixed
from heapsmeet.spots import is_spot
from heapsmeet.wholes import is_row, weighed


def is_group_shares(points, group, thing):
    """Whether something is shares of some of the group's points alone."""
    return is_shares(len(points), thing) and all(k in group for k, share in thing)


def leads_to(points, group, spot, thing):
    """Whether something is shares of some of the group's points that mix them to the spot."""
    return is_group_shares(points, group, thing) and mixed(points, thing) == spot


def shared_holds(points, groups, thing):
    """Whether something is a paper of shared groups."""
    if not is_row(2, thing):
        return False
    spot, rows = thing
    # A spot is compared only if it is one: True would be taken for 1.
    if not is_spot(spot) or not is_row(len(groups), rows):
        return False
    return all(leads_to(points, group, spot, row) for group, row in zip(groups, rows))


def part_all(sides):
    """Whether the rows are together 0 in each direction and the t's together below 0."""
    together = weighed([(*row, most) for row, most in sides], [1] * len(sides))
    return not any(together[:-1]) and together[-1] < 0


def apart_holds(points, groups, thing):
    """Whether something is a paper of groups apart."""
    directions = len(points[0]) - 1
    if not is_row(len(groups), thing) or not all(is_side(directions, side) for side in thing):
        return False
    if not part_all(thing):
        return False
    return not any(
        is_beyond(side, points[k])
        for group, side in zip(groups, thing)
        for k in group
    )
