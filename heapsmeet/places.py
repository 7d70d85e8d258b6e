"""Where a spot lies of points: within their hull or without, each with a paper."""

from heapsmeet.arrows import mix_of
from heapsmeet.near import nearest
from heapsmeet.wholes import common_multiple, lessened, sum_of_products


def scale_to(point, spot):
    """The least number from 1 on that makes the arrow from the spot to the point whole."""
    return common_multiple([point[-1], spot[-1]])


def arrow_to(point, spot):
    """The arrow from the spot to the point, made whole."""
    scale = scale_to(point, spot)
    mine, its = scale // point[-1], scale // spot[-1]
    return tuple(mine * end - its * start for end, start in zip(point[:-1], spot[:-1]))


def scaled(shares, scales):
    """The shares, each times its scale, in lowest terms."""
    numbers = lessened([share * scales[k] for k, share in shares])
    return tuple((k, number) for (k, share), number in zip(shares, numbers))


def wall_before(points, numbers):
    """The wall in front of the points that looks against the numbers."""
    # Times this each sum at a point is whole, so the greatest one can be t.
    whole = common_multiple([point[-1] for point in points])
    row = tuple(-whole * number for number in lessened(numbers))
    return row, max(sum_of_products(row, point[:-1]) // point[-1] for point in points)


def wall_behind(spot):
    """A wall that the spot lies beyond."""
    row = tuple(1 if at == 0 else 0 for at in range(len(spot) - 1))
    return row, spot[0] // spot[-1] - 1


def place(points, spot):
    """("within", shares) or ("without", wall), whichever is so of the spot and the points."""
    if not points:
        return "without", wall_behind(spot)
    arrows = [arrow_to(point, spot) for point in points]
    shares = nearest(arrows)
    numbers = mix_of(arrows, shares)[:-1]
    if any(numbers):
        return "without", wall_before(points, numbers)
    return "within", scaled(shares, [scale_to(point, spot) for point in points])
