"""All ways to part a few points into heaps whose hulls share a spot."""

from heapsmeet.errors import TooMany
from heapsmeet.sharing import sharing

MOST_PARTED = 7
FEWEST_HEAPS = 2
MOST_HEAPS = 3


def grown(rows, k, many):
    """The rows with k behind, in each of them in turn or, unless there are so many, in its own."""
    found = [
        rows[:at] + ((*row, k),) + rows[at + 1:]
        for at, row in enumerate(rows)
    ]
    if len(rows) < many:
        found.append((*rows, (k,)))
    return found


def partings(count, many):
    """All partings of so many points into so many heaps, in order of their least points."""
    found = [()]
    for k in range(count):
        found = [other for rows in found for other in grown(rows, k, many)]
    return sorted(rows for rows in found if len(rows) == many)


def ways(points, many):
    """All heaps of the points, so many of them, whose hulls share a spot, in order."""
    if len(points) > MOST_PARTED or not FEWEST_HEAPS <= many <= MOST_HEAPS:
        raise TooMany()
    return [
        rows for rows in partings(len(points), many)
        if sharing(points, list(rows))[0] == "shared"
    ]
