"""Points told by lines of text, and read again."""

from heapsmeet.errors import NoText
from heapsmeet.spots import is_points, spot_at
from heapsmeet.wholes import common_multiple, divisor_of_two, lessened

FIGURES = "0123456789"
# No point has a number of more figures; a longer one needn't be worked out.
MOST_FIGURES = 5


def place_told(number, bottom):
    """The text of the place at the number over the bottom."""
    number, bottom = lessened((number, bottom))
    return str(number) if bottom == 1 else f"{number}/{bottom}"


def spot_told(spot):
    """The text of the spot's places."""
    return " ".join(place_told(number, spot[-1]) for number in spot[:-1])


def told(points):
    """The text of the points, a line for each."""
    return "".join(spot_told(point) + "\n" for point in points)


def number_read(word, most):
    """The number that a word tells in at most so many figures; None if it tells none."""
    figures = word.removeprefix("-")
    if not 1 <= len(figures) <= most or not all(sign in FIGURES for sign in figures):
        return None
    # So neither a nought ahead of other figures nor -0 tells a number.
    return None if figures[0] == "0" and word != "0" else int(word)


def place_read(word, most):
    """The pair of number and bottom that a word tells a place by; None if it tells none."""
    head, stroke, tail = word.partition("/")
    number = number_read(head, most)
    bottom = number_read(tail, most) if stroke else 1
    if number is None or bottom is None:
        return None
    if stroke and (bottom < 2 or divisor_of_two(number, bottom) != 1):
        return None
    return number, bottom


def spot_read(words, most):
    """The spot whose places the words tell; None if one of them tells none."""
    places = [place_read(word, most) for word in words]
    if any(place is None for place in places):
        return None
    whole = common_multiple([bottom for number, bottom in places])
    return spot_at([number * (whole // bottom) for number, bottom in places], whole)


def read(thing):
    """The points that a text tells."""
    if not isinstance(thing, str):
        raise NoText()
    *lines, rest = thing.split("\n")
    found = [spot_read(line.split(" "), MOST_FIGURES) for line in lines]
    # What isn't ended by a line feed leaves a rest; a line that tells no spot leaves None.
    if rest != "" or not is_points(found):
        raise NoText()
    return found
