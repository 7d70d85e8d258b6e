"""The nearest spots of two groups, and how near they are."""

from heapsmeet.errors import TooMany
from heapsmeet.near import nearest
from heapsmeet.places import arrow_to, scale_to
from heapsmeet.shares import mixed
from heapsmeet.spots import spot_at
from heapsmeet.wholes import common_multiple, lessened, sum_of_products

MOST_PAIRS = 400


def whole_places(points, group, whole):
    """The places of the group's points, each times a number that makes all of them whole."""
    return [[number * (whole // points[k][-1]) for number in points[k][:-1]] for k in group]


def arrows_between(points, one, other):
    """The arrows to each point of the one group, in turn, from each of the other, all made whole alike."""
    whole = common_multiple([points[k][-1] for k in (*one, *other)])
    starts = whole_places(points, other, whole)
    return [
        tuple(high - low for high, low in zip(end, start))
        for end in whole_places(points, one, whole)
        for start in starts
    ]


def put_together(pairs):
    """Shares by pairs (k, s) in which a k may stand several times."""
    totals = {}
    for k, share in pairs:
        totals[k] = totals.get(k, 0) + share
    names = sorted(totals)
    return tuple(zip(names, lessened([totals[k] for k in names])))


def near_spots(points, one, other):
    """A paper of near spots of the two groups."""
    many = len(other)
    if len(one) * many > MOST_PAIRS:
        raise TooMany()
    shares = nearest(arrows_between(points, one, other))
    ends = put_together([(one[at // many], share) for at, share in shares])
    starts = put_together([(other[at % many], share) for at, share in shares])
    return ends, starts


def gap(points, one, other):
    """The square of the distance of near spots of the two groups, as a row (a, b) in lowest terms."""
    ends, starts = near_spots(points, one, other)
    end, start = mixed(points, ends), mixed(points, starts)
    between, scale = arrow_to(end, start), scale_to(end, start)
    return spot_at((sum_of_products(between, between),), scale * scale)
