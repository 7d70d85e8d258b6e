"""Two heaps by the signs of a tie."""

from heapsmeet.errors import TooFew
from heapsmeet.shares import mixed
from heapsmeet.ties import tie


def by_signs(points, numbers):
    """The paper of two heaps by a tie: the points above 0, and all others."""
    first = tuple(k for k, number in enumerate(numbers) if number > 0)
    second = tuple(k for k, number in enumerate(numbers) if number <= 0)
    above = tuple((k, numbers[k]) for k in first)
    below = tuple((k, -numbers[k]) for k in second if numbers[k] < 0)
    return (first, second), mixed(points, above), (above, below)


def two_heaps(points):
    """A paper of two heaps by a tie of the first points that are sure to have one."""
    # So many are d + 2: a point has a number for each direction, and its bottom.
    if not points or len(points) < len(points[0]) + 1:
        raise TooFew()
    tied = len(points[0]) + 1
    behind = (0,) * (len(points) - tied)
    return by_signs(points, tie(points[:tied]) + behind)
