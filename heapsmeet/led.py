"""Spots, points, papers and walls led by a table and a shift."""

from heapsmeet.errors import Flat
from heapsmeet.spots import spot_at
from heapsmeet.wholes import lessened, sum_of_products


def led_spot(spot, table, shift):
    """The spot that the table and the shift lead the spot to."""
    numbers, bottom = spot[:-1], spot[-1]
    return spot_at(
        [sum_of_products(row, numbers) + step * bottom for row, step in zip(table, shift)],
        bottom,
    )


def led_points(points, table, shift):
    """The points led, in order."""
    return [led_spot(point, table, shift) for point in points]


def led_shared(paper, table, shift):
    """The paper of shared groups, its spot led."""
    spot, rows = paper
    return led_spot(spot, table, shift), rows


def led_heaps(paper, table, shift):
    """The paper of heaps, its spot led."""
    parting, spot, rows = paper
    return parting, led_spot(spot, table, shift), rows


def determinant(rows):
    """The determinant of the rows: 0 just where they lead two spots to one."""
    if not rows:
        return 1
    total = 0
    sign = 1
    for at, number in enumerate(rows[0]):
        total += sign * number * determinant([(*row[:at], *row[at + 1:]) for row in rows[1:]])
        sign = -sign
    return total


def wall_led(wall, table, shift):
    """A wall that led spots lie beyond, at and before just where the spots do of the wall.

    The table's determinants with the wall's row in place of one of its own are
    numbers whose sum at a led spot, unshifted, is the table's determinant times
    the wall's sum at the spot.
    """
    row, most = wall
    whole = determinant(table)
    if whole == 0:
        raise Flat()
    # A determinant below 0 would turn above and below about.
    sign = 1 if whole > 0 else -1
    numbers = [sign * determinant((*table[:at], row, *table[at + 1:])) for at in range(len(row))]
    line = lessened([*numbers, sign * whole * most + sum_of_products(numbers, shift)])
    return line[:-1], line[-1]
