"""Shares of numbered things, and points mixed by them."""

from heapsmeet.wholes import common_multiple, is_numbers, lessened, weighed


def is_share(many, thing):
    """Whether something is a row (k, s): k one of so many numbers, s from 1 on."""
    if not is_numbers(thing) or len(thing) != 2:
        return False
    return 0 <= thing[0] < many and thing[1] >= 1


def is_shares(many, thing):
    """Whether something is shares of so many things."""
    if not isinstance(thing, tuple) or len(thing) == 0:
        return False
    if not all(is_share(many, part) for part in thing):
        return False
    return all(one[0] < other[0] for one, other in zip(thing, thing[1:]))


def over_bottoms(points, numbers):
    """The numbers, made so that each, times its point's bottom, stands over the same."""
    whole = common_multiple([point[-1] for point in points])
    return [number * (whole // point[-1]) for number, point in zip(numbers, points)]


def mixed(points, shares):
    """The spot that the points are mixed to by the shares."""
    shared = [points[k] for k, share in shares]
    weights = over_bottoms(shared, [share for k, share in shares])
    # The bottoms are weighed, too, and come to all shares together.
    return lessened(weighed(shared, weights))
