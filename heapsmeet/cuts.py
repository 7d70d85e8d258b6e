"""Cuts through a spot, how many points they show, and the checker of a spot's depth."""

from heapsmeet.places import arrow_to
from heapsmeet.wholes import is_number, is_numbers, is_row, sum_of_products


def is_cut(directions, thing):
    """Whether something is a cut in so many directions."""
    return is_numbers(thing) and len(thing) == directions and any(thing)


def shows(points, spot, cut):
    """How many points have a sum by the cut that isn't less than the spot's."""
    level = sum_of_products(cut, spot[:-1])
    shown = [
        point for point in points
        if sum_of_products(cut, point[:-1]) * spot[-1] >= level * point[-1]
    ]
    return len(shown)


def line_depth(points, spot):
    """The least number of points that any cut shows, in a line."""
    return min(shows(points, spot, (1,)), shows(points, spot, (-1,)))


def turn_to(arrow, other):
    """Above 0 where the other arrow points to the left of the arrow, below where to the right."""
    return arrow[0] * other[1] - arrow[1] * other[0]


def least_beside(arrow, arrows):
    """The fewest of the arrows that cuts a little beside the line of one of them show."""
    turns = [turn_to(arrow, other) for other in arrows]
    left = len([turn for turn in turns if turn > 0])
    right = len([turn for turn in turns if turn < 0])
    on_line = [other for other, turn in zip(arrows, turns) if turn == 0]
    front = len([other for other in on_line if sum_of_products(arrow, other) > 0])
    # Of the two ends of the line such a cut shows either one, with either side.
    return min(left, right) + min(front, len(on_line) - front)


def plane_depth(points, spot):
    """The least number of points that any cut shows, in a plane."""
    arrows = [arrow_to(point, spot) for point in points]
    elsewhere = [arrow for arrow in arrows if any(arrow)]
    at_spot = len(arrows) - len(elsewhere)
    return at_spot + min([least_beside(arrow, elsewhere) for arrow in elsewhere], default=0)


def depth_holds(points, spot, thing):
    """Whether something is a pair of the spot's depth, in line or plane, and a cut that shows it."""
    directions = len(spot) - 1
    if directions > 2 or not is_row(2, thing):
        return False
    number, cut = thing
    if not is_number(number) or not is_cut(directions, cut):
        return False
    if shows(points, spot, cut) != number:
        return False
    return number == (line_depth(points, spot) if directions == 1 else plane_depth(points, spot))
