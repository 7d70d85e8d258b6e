"""Heaps of points whose hulls share a spot, by choices of lifted arrows."""

from heapsmeet.arrows import from_nought, in_each_turn, in_turn
from heapsmeet.errors import TooFew, TooMany
from heapsmeet.exchanges import exchanged
from heapsmeet.heapspaper import enough
from heapsmeet.shares import mixed

MOST_LIFTED = 12


def lifted_arrows(point, many):
    """The point's arrows: one for each turn of its own, and one against all of them."""
    turns = many - 1
    arrows = [in_turn(point, own, turns) for own in range(turns)]
    arrows.append(in_each_turn(from_nought(point), turns))
    return arrows


def lifted(points, many):
    """Colours for so many heaps: the lifted arrows of each of the first points that are enough."""
    first = points[:enough(len(points[0]) - 1, many)]
    return [lifted_arrows(point, many) for point in first]


def by_choice(points, many, choice, shares):
    """The paper of so many heaps by a choice of the lifted arrows whose mix by the shares is nought."""
    # The points behind the chosen ones fall to the last heap.
    fallen = list(choice) + [many - 1] * (len(points) - len(choice))
    parting = tuple(
        tuple(k for k, own in enumerate(fallen) if own == heap)
        for heap in range(many)
    )
    rows = tuple(
        tuple((k, share * points[k][-1]) for k, share in shares if choice[k] == heap)
        for heap in range(many)
    )
    return parting, mixed(points, rows[0]), rows


def refuse_count(points, many):
    """Refuses more heaps than are let, and fewer points than are enough for them."""
    if not points:
        raise TooFew()
    if (many - 1) * len(points[0]) > MOST_LIFTED:
        raise TooMany()
    # For no heaps at all no points are enough: each has to stand in one.
    if many < 1 or len(points) < enough(len(points[0]) - 1, many):
        raise TooFew()


def heaps(points, many):
    """A paper of so many heaps of the points."""
    refuse_count(points, many)
    if many == 1:
        return (tuple(range(len(points))),), points[0], (((0, 1),),)
    choice, shares = exchanged(lifted(points, many))[-1]
    return by_choice(points, many, choice, shares)
