"""Whole numbers, rows of them, and what divides them."""


def is_number(thing):
    """Whether something is a whole number; neither True nor False is one."""
    return isinstance(thing, int) and not isinstance(thing, bool)


def is_row(many, thing):
    """Whether something is a row of so many parts, whatever they are."""
    return isinstance(thing, tuple) and len(thing) == many


def is_numbers(thing):
    """Whether something is a row of numbers alone (of none, too)."""
    return isinstance(thing, tuple) and all(is_number(part) for part in thing)


def divisor_of_two(one, other):
    """The greatest number that divides both; 0 if both are 0."""
    one, other = abs(one), abs(other)
    while other != 0:
        one, other = other, one % other
    return one


def common_divisor(numbers):
    """The greatest number that divides all; 0 if all are 0."""
    found = 0
    for number in numbers:
        found = divisor_of_two(found, number)
        if found == 1:
            break
    return found


def common_multiple(numbers):
    """The least number from 1 on that all the numbers, each from 1 on, divide."""
    found = 1
    for number in numbers:
        found *= number // divisor_of_two(found, number)
    return found


def lessened(numbers):
    """The numbers, not all 0, as a row, without what divides them all."""
    common = common_divisor(numbers)
    return tuple(number // common for number in numbers)


def sum_of_products(ones, others):
    """Each number times its fellow, together."""
    return sum(one * other for one, other in zip(ones, others))


def weighed(rows, weights):
    """The rows, each times its weight, together: number by number, as a list."""
    return [sum_of_products(weights, [row[at] for row in rows]) for at in range(len(rows[0]))]
