"""The checker of near spots of two groups."""

from heapsmeet.groups import is_group_shares
from heapsmeet.places import arrow_to
from heapsmeet.shares import mixed
from heapsmeet.wholes import is_row, sum_of_products


def gap_holds(points, one, other, thing):
    """Whether something is a paper of near spots of the two groups."""
    if not is_row(2, thing):
        return False
    if not is_group_shares(points, one, thing[0]) or not is_group_shares(points, other, thing[1]):
        return False
    end, start = mixed(points, thing[0]), mixed(points, thing[1])
    between = arrow_to(end, start)
    # No point of the first group lies back from its spot, none of the second ahead of its own.
    return all(sum_of_products(between, arrow_to(points[k], end)) >= 0 for k in one) and all(
        sum_of_products(between, arrow_to(points[k], start)) <= 0 for k in other
    )
