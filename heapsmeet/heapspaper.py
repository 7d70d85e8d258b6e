"""Papers of heaps, their checker, and how many points are enough for heaps."""

from heapsmeet.groups import shared_holds
from heapsmeet.wholes import is_numbers, is_row


def is_heap(thing):
    """Whether something is a row of numbers, rising, not empty."""
    if not is_numbers(thing) or len(thing) == 0:
        return False
    return all(one < other for one, other in zip(thing, thing[1:]))


def part_points(many, rows):
    """Whether each of so many points stands in just one of the rows."""
    return sorted(k for row in rows for k in row) == list(range(many))


def heaps_hold(points, many, thing):
    """Whether something is a paper of so many heaps of the points."""
    if not is_row(3, thing):
        return False
    parting, spot, rows = thing
    if not is_row(many, parting) or not all(is_heap(heap) for heap in parting):
        return False
    # Without points there are no heaps at all, so none is looked through.
    if not points or not part_points(len(points), parting):
        return False
    return shared_holds(points, list(parting), (spot, rows))


def enough(directions, many):
    """How many points are enough for so many heaps."""
    return (many - 1) * (directions + 1) + 1
