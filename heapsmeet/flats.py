"""The nearest mix of arrows with numbers of whatever sign."""

from heapsmeet.wholes import lessened, sum_of_products


def risen(table):
    """The rows of the table cleared below its diagonal, each division without a rest.

    Wants a table whose upper left corners all have determinants above 0: then
    no number on the diagonal becomes 0, and no rows have to be exchanged.
    """
    rows = list(table)
    many = len(rows)
    last = 1
    for step in range(many):
        head = rows[step]
        for at in range(step + 1, many):
            row = rows[at]
            rows[at] = [
                (head[step] * mine - row[step] * its) // last
                for mine, its in zip(row, head)
            ]
        last = head[step]
    return rows


def solved(rows):
    """The numbers, times the last diagonal one, that meet the risen rows' last column."""
    many = len(rows)
    whole = rows[-1][many - 1]
    numbers = [0] * many
    for at in range(many - 1, -1, -1):
        row = rows[at]
        rest = whole * row[many] - sum_of_products(row[at + 1:many], numbers[at + 1:])
        numbers[at] = rest // row[at]
    return numbers


def flat_shares(arrows):
    """Numbers, together above 0, whose mix of the untied arrows is nearest of all signs'.

    The mix has the same sum with each arrow. So, if 1 is set behind each arrow,
    the numbers' sums with all products of two arrows are alike: up to a number
    above 0, they are solved for sums of 1. Untied arrows with 1 behind are free
    of each other, so their products' table has determinants above 0.
    """
    table = [[sum_of_products(one, other) + 1 for other in arrows] + [1] for one in arrows]
    return lessened(solved(risen(table)))
