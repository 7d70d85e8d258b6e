"""Trails of choices, each nearer than the last, and their checker."""

from heapsmeet.arrows import mix_of, near_holds
from heapsmeet.wholes import is_numbers, is_row, sum_of_products


def chosen_of(colours, choice):
    """The arrow of each colour that is chosen, in turn."""
    return [colour[k] for colour, k in zip(colours, choice)]


def is_choice(colours, thing):
    """Whether something is a choice of the colours."""
    if not is_numbers(thing) or len(thing) != len(colours):
        return False
    return all(0 <= k < len(colour) for colour, k in zip(colours, thing))


def is_step(colours, thing):
    """Whether something is a choice with a paper of a nearest mix of what is chosen."""
    if not is_row(2, thing):
        return False
    choice, shares = thing
    return is_choice(colours, choice) and near_holds(chosen_of(colours, choice), shares)


def step_mix(colours, step):
    """The mix of a step."""
    choice, shares = step
    return mix_of(chosen_of(colours, choice), shares)


def is_exchange(step, later):
    """Whether the later step's choice differs in one colour alone, which had no share."""
    choice, shares = step
    differing = [at for at in range(len(choice)) if choice[at] != later[0][at]]
    return len(differing) == 1 and differing[0] not in [at for at, share in shares]


def is_nearer(mix, other):
    """Whether the mix's square is less than the other's."""
    square = sum_of_products(mix[:-1], mix[:-1])
    its = sum_of_products(other[:-1], other[:-1])
    return square * other[-1] * other[-1] < its * mix[-1] * mix[-1]


def trail_holds(colours, thing):
    """Whether something is a trail of the colours."""
    if not isinstance(thing, tuple) or len(thing) == 0:
        return False
    if not all(is_step(colours, step) for step in thing) or any(thing[0][0]):
        return False
    if not all(is_exchange(step, later) for step, later in zip(thing, thing[1:])):
        return False
    mixes = [step_mix(colours, step) for step in thing]
    # Nearer and nearer down to nought, so no mix but the last can be nought.
    return not any(mixes[-1][:-1]) and all(
        is_nearer(later, mix) for mix, later in zip(mixes, mixes[1:])
    )
