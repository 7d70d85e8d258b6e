"""The search for a nearest mix of arrows."""

from heapsmeet.arrows import is_behind, mix_of
from heapsmeet.flats import flat_shares
from heapsmeet.wholes import lessened, sum_of_products


def least_at(numbers):
    """The place of the first least number."""
    return numbers.index(min(numbers))


def is_sooner(one, other):
    """Whether the step (part, whole) is less than the other; each whole is above 0."""
    return one[0] * other[1] < other[0] * one[1]


def longest_step(shares, goal):
    """How far from the shares towards the goal none falls below 0, as (part, whole)."""
    together, aimed = sum(shares), sum(goal)
    found = (1, 1)
    for share, aim in zip(shares, goal):
        if aim < 0:
            step = (share * aimed, share * aimed - aim * together)
            if is_sooner(step, found):
                found = step
    return found


def led_towards(shares, goal):
    """The shares as far towards the goal as none falls below 0."""
    part, whole = longest_step(shares, goal)
    together, aimed = sum(shares), sum(goal)
    return lessened([
        (whole - part) * aimed * share + part * together * aim
        for share, aim in zip(shares, goal)
    ])


def settled(arrows, taken, shares):
    """The arrows taken and their shares, once none is left whose share falls to 0."""
    goal = flat_shares([arrows[k] for k in taken])
    while min(goal) <= 0:
        shares = led_towards(shares, goal)
        taken = [k for k, share in zip(taken, shares) if share > 0]
        shares = [share for share in shares if share > 0]
        goal = flat_shares([arrows[k] for k in taken])
    return taken, list(goal)


def nearest(arrows):
    """A paper of a nearest mix of the arrows, of no more shares than are needed."""
    # No arrows are one too few, which is no reason for an error: no shares are told.
    if not arrows:
        return ()
    taken = [least_at([sum_of_products(arrow, arrow) for arrow in arrows])]
    shares = [1]
    while True:
        paper = tuple(sorted(zip(taken, shares)))
        mix = mix_of(arrows, paper)
        other = least_at([sum_of_products(mix[:-1], arrow) for arrow in arrows])
        if is_behind(mix, arrows[other]):
            return paper
        taken, shares = settled(arrows, [*taken, other], [*shares, 0])
