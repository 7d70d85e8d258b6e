"""Choices that are exchanged, arrow by arrow, until a mix of the chosen is nought."""

from heapsmeet.arrows import mix_of
from heapsmeet.errors import NotHeld
from heapsmeet.near import nearest
from heapsmeet.trails import chosen_of
from heapsmeet.wholes import sum_of_products


def refuse_not_held(colours):
    """Refuses colours one of which has no mix that is nought."""
    for at, colour in enumerate(colours):
        if any(mix_of(colour, nearest(colour))[:-1]):
            raise NotHeld(at)


def first_without(many, shares):
    """The first of so many colours that has no share."""
    sharing_ones = [at for at, share in shares]
    return [at for at in range(many) if at not in sharing_ones][0]


def against(numbers, colour):
    """The number of the colour's arrow that has the least sum with the numbers."""
    sums = [sum_of_products(numbers, arrow) for arrow in colour]
    return sums.index(min(sums))


def exchanged_once(colours, choice, shares, numbers):
    """The choice with another arrow of a colour without a share, one that makes the mix nearer.

    A mix that isn't nought has no more shares than an arrow has numbers, so some
    colour has none. As that colour holds nought, its least sum is 0 at most.
    """
    at = first_without(len(colours), shares)
    return choice[:at] + (against(numbers, colours[at]),) + choice[at + 1:]


def exchanged(colours):
    """A trail of the colours."""
    refuse_not_held(colours)
    choice = (0,) * len(colours)
    steps = []
    while True:
        arrows = chosen_of(colours, choice)
        shares = nearest(arrows)
        steps.append((choice, shares))
        numbers = mix_of(arrows, shares)[:-1]
        if not any(numbers):
            return tuple(steps)
        choice = exchanged_once(colours, choice, shares, numbers)
