"""Ties of points: numbers, together 0, by which the points come to nought."""

from heapsmeet.shares import over_bottoms
from heapsmeet.wholes import is_numbers, lessened, weighed


def tie_holds(points, thing):
    """Whether something is a tie of the points."""
    if not is_numbers(thing) or len(thing) != len(points) or not any(thing):
        return False
    # The last of these sums is that of the bottoms: the numbers themselves, together.
    return not any(weighed(points, over_bottoms(points, thing)))


def first_set(numbers):
    """The place of the first number that isn't 0; None if all are 0."""
    for at, number in enumerate(numbers):
        if number != 0:
            return at
    return None


def cleared(row, other, column):
    """The row times a number, less the other times one, so that it has 0 in the column."""
    return lessened([mine * other[column] - its * row[column] for mine, its in zip(row, other)])


def line_tie(lines):
    """Numbers, not all 0, by which the lines are together nought; None if there are none."""
    kept = []
    for at, line in enumerate(lines):
        width = len(line)
        # Beside each line stands of how many of which lines it is made.
        made_of = [1 if k == at else 0 for k in range(len(lines))]
        row = (*line, *made_of)
        for column, other in kept:
            row = cleared(row, other, column)
        own_column = first_set(row[:width])
        if own_column is None:
            return row[width:]
        kept.append((own_column, row))
    return None


def choices(many, size):
    """All rows of so many numbers, rising, each below many."""
    rows = [()]
    for length in range(size):
        rows = [
            (*row, number)
            for row in rows
            for number in range(row[-1] + 1 if row else 0, many)
        ]
    return rows


def is_plain(points):
    """Whether no d + 1 of the points (or not all of them, where they are fewer) have a tie."""
    if not points:
        return True
    size = min(len(points), len(points[0]))
    return all(
        line_tie([points[k] for k in chosen]) is None
        for chosen in choices(len(points), size)
    )


def tie(points):
    """Some tie of the points in lowest terms, its first number above 0; None if they have none."""
    found = line_tie(points)
    if found is None:
        return None
    # A point's line is its places and 1, times its bottom.
    numbers = lessened([number * point[-1] for number, point in zip(found, points)])
    sign = 1 if numbers[first_set(numbers)] > 0 else -1
    return tuple(sign * number for number in numbers)
