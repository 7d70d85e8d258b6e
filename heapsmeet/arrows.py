"""Arrows, made of lines in turns; arrows mixed by shares, and the checker of a nearest mix."""

from heapsmeet.shares import is_shares
from heapsmeet.spots import spot_at
from heapsmeet.wholes import sum_of_products, weighed


def in_turn(line, own, turns):
    """The arrow of so many turns that has the line in its own turn and noughts in the others."""
    return tuple(number if turn == own else 0 for turn in range(turns) for number in line)


def in_each_turn(line, turns):
    """The arrow of so many turns that has the line in each."""
    return tuple(line) * turns


def from_nought(line):
    """The line, taken from 0."""
    return tuple(-number for number in line)


def mix_of(arrows, shares):
    """The arrows mixed by the shares: a row of places over one bottom, in lowest terms."""
    shared = [arrows[k] for k, share in shares]
    weights = [share for k, share in shares]
    return spot_at(weighed(shared, weights), sum(weights))


def is_behind(mix, arrow):
    """Whether the arrow lies no nearer along the mix: their sum is at least the mix's square."""
    *numbers, bottom = mix
    return bottom * sum_of_products(numbers, arrow) >= sum_of_products(numbers, numbers)


def near_holds(arrows, thing):
    """Whether something is a paper of a nearest mix of the arrows."""
    if not is_shares(len(arrows), thing):
        return False
    mix = mix_of(arrows, thing)
    return all(is_behind(mix, arrow) for arrow in arrows)
