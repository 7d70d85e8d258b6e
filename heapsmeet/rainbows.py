"""The checker of a rainbow: a point of each colour, mixed to a spot."""

from heapsmeet.shares import is_shares, mixed
from heapsmeet.wholes import is_numbers, is_row


def is_one_of_each(colours, thing):
    """Whether something is a row of one point's number of each colour, in turn."""
    if not is_numbers(thing) or len(thing) != len(colours):
        return False
    return all(k in colour for k, colour in zip(thing, colours))


def rainbow_holds(points, colours, spot, thing):
    """Whether something is a paper of a rainbow round the spot."""
    if not is_row(2, thing):
        return False
    choice, shares = thing
    if not is_one_of_each(colours, choice) or not is_shares(len(colours), shares):
        return False
    return mixed([points[k] for k in choice], shares) == spot
