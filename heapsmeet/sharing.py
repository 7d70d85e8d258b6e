"""Whether groups of points share a spot, with a paper; and the first few that share none."""

from heapsmeet.arrows import from_nought, in_each_turn, in_turn, mix_of
from heapsmeet.errors import TooMany
from heapsmeet.near import nearest
from heapsmeet.shares import mixed
from heapsmeet.ties import choices
from heapsmeet.wholes import common_multiple, lessened, sum_of_products, weighed

MOST_NUMBERS = 20
MOST_ARROWS = 400


def refuse_too_many(points, groups):
    """Refuses groups that would need longer arrows, or more of them, than are let."""
    if (len(groups) - 1) * len(points[0]) > MOST_NUMBERS:
        raise TooMany()
    if sum(len(group) for group in groups) > MOST_ARROWS:
        raise TooMany()


def group_arrows(points, groups):
    """An arrow for each point of each group, in turn; where lines of all meet a mix is nought."""
    # A point as it is told is its line: its places and 1, times its bottom.
    turns = len(groups) - 1
    arrows = [in_each_turn(points[k], turns) for k in groups[0]]
    for own, group in enumerate(groups[1:]):
        arrows += [in_turn(from_nought(points[k]), own, turns) for k in group]
    return arrows


def group_shares(points, group, shares):
    """Shares of the group's points by those of its arrows: each times its point's bottom."""
    numbers = lessened([share * points[group[at]][-1] for at, share in shares])
    return tuple((group[at], number) for (at, share), number in zip(shares, numbers))


def shared_paper(points, groups, shares):
    """The paper of shared groups by shares of their arrows whose mix is nought."""
    rows = []
    start = 0
    for group in groups:
        end = start + len(group)
        own = [(at - start, share) for at, share in shares if start <= at < end]
        rows.append(group_shares(points, group, own))
        start = end
    # All groups' lines come to the same, so any of them tells the spot.
    return mixed(points, rows[0]), tuple(rows)


def side_before(points, group, row):
    """The row with the greatest sum at the group's points, which has to be whole."""
    return row, max(sum_of_products(row, points[k][:-1]) // points[k][-1] for k in group)


def apart_paper(points, groups, numbers):
    """The paper of groups apart by the numbers of a nearest mix that isn't nought."""
    width = len(points[0])
    # Times this each sum at a point is whole, so the greatest one can be t.
    whole = common_multiple([point[-1] for point in points])
    line = [whole * number for number in lessened(numbers)]
    rows = [line[start:start + width - 1] for start in range(0, len(line), width)]
    left = weighed(rows, [-1] * len(rows))
    return tuple(
        side_before(points, group, tuple(row))
        for group, row in zip(groups, [left, *rows])
    )


def sharing(points, groups):
    """("shared", paper) or ("apart", paper), whichever is so of the groups."""
    refuse_too_many(points, groups)
    if len(groups) == 1:
        first = groups[0][0]
        return "shared", (points[first], (((first, 1),),))
    arrows = group_arrows(points, groups)
    shares = nearest(arrows)
    numbers = mix_of(arrows, shares)[:-1]
    if any(numbers):
        return "apart", apart_paper(points, groups, numbers)
    return "shared", shared_paper(points, groups, shares)


def few(points, groups):
    """The first few of the groups that share no spot, with their paper; None if all share one."""
    refuse_too_many(points, groups)
    for size in range(2, len(points[0]) + 1):
        for chosen in choices(len(groups), size):
            word, paper = sharing(points, [groups[k] for k in chosen])
            if word == "apart":
                return chosen, paper
    return None
