"""A desk: points that are kept, changed and asked about by lines of text."""

from heapsmeet.allways import ways
from heapsmeet.depths import deep, depth
from heapsmeet.errors import NoDepth, NoPoint, NotPoint, TooFew, TooMany
from heapsmeet.heaps import heaps
from heapsmeet.hulls import within_holds
from heapsmeet.nearspots import gap
from heapsmeet.places import place
from heapsmeet.sharing import few, sharing
from heapsmeet.spots import MOST_POINTS, is_point
from heapsmeet.texts import spot_told, told
from heapsmeet.words import (
    NoWord, no_words, number_alone, number_and_spot, rows_of, spot_and_shares, spot_of, two_rows, words_of,
)


def line_of(parts):
    """The parts with a blank between two."""
    return " ".join([str(part) for part in parts])


def refuse_missing(desk, numbers):
    """Refuses numbers of which one is no point's."""
    if any(k >= len(desk.points) for k in numbers):
        raise NoPoint()


def refuse_no_point(spot):
    """Refuses a spot that is no point."""
    if not is_point(spot):
        raise NotPoint()


def say_add(desk, words):
    """Puts a point behind all others."""
    spot = spot_of(words, desk.directions)
    refuse_no_point(spot)
    if len(desk.points) >= MOST_POINTS:
        raise TooMany()
    desk.points.append(spot)
    return str(len(desk.points) - 1)


def say_move(desk, words):
    """Puts a point elsewhere."""
    k, spot = number_and_spot(words, desk.directions)
    refuse_missing(desk, [k])
    refuse_no_point(spot)
    desk.points[k] = spot
    return "done"


def say_drop(desk, words):
    """Takes a point away."""
    k = number_alone(words)
    refuse_missing(desk, [k])
    desk.points.pop(k)
    return "done"


def say_points(desk, words):
    """The text of the points."""
    no_words(words)
    return told(desk.points)


def say_many(desk, words):
    """How many points there are."""
    no_words(words)
    return str(len(desk.points))


def say_within(desk, words):
    """Where a spot lies, with its shares or its wall."""
    word, paper = place(desk.points, spot_of(words, desk.directions))
    if word == "within":
        return line_of([word, *[f"{k}:{share}" for k, share in paper]])
    row, most = paper
    return line_of([word, *row, most])


def say_check(desk, words):
    """Whether the told shares, as they stand, are a paper of the spot within the points."""
    spot, shares = spot_and_shares(words, desk.directions)
    return "yes" if within_holds(desk.points, spot, shares) else "no"


def say_heaps(desk, words):
    """So many heaps, and the spot that their hulls share."""
    parting, spot, rows = heaps(desk.points, number_alone(words))
    rows_told = " | ".join(line_of(heap) for heap in parting)
    return f"{rows_told} at {spot_told(spot)}"


def say_ways(desk, words):
    """How many ways there are to make so many heaps."""
    return str(len(ways(desk.points, number_alone(words))))


def say_deep(desk, words):
    """The places of a deep spot."""
    no_words(words)
    return spot_told(deep(desk.points)[1])


def say_depth(desk, words):
    """How deep a spot lies."""
    return str(depth(desk.points, spot_of(words, desk.directions))[0])


def say_share(desk, words):
    """A spot that all rows share, or the first few that share none."""
    rows = rows_of(words)
    refuse_missing(desk, [k for row in rows for k in row])
    found = few(desk.points, rows)
    if found is not None:
        return f"apart {line_of(found[0])}"
    spot = sharing(desk.points, rows)[1][0]
    return f"at {spot_told(spot)}"


def say_gap(desk, words):
    """The square of the distance of two rows' hulls."""
    one, other = two_rows(words)
    refuse_missing(desk, [*one, *other])
    above, below = gap(desk.points, one, other)
    return f"{above}/{below}"


DEEDS = {
    "add": say_add,
    "move": say_move,
    "drop": say_drop,
    "points": say_points,
    "many": say_many,
    "within": say_within,
    "check": say_check,
    "heaps": say_heaps,
    "ways": say_ways,
    "deep": say_deep,
    "depth": say_depth,
    "share": say_share,
    "gap": say_gap,
}


def answer(desk, line):
    """Does what the line says, and tells what comes of it."""
    words = words_of(line)
    if words[0] not in DEEDS:
        raise NoWord()
    deed = DEEDS[words[0]]
    return deed(desk, words[1:])


class Desk:
    """Points of so many directions, none at first."""

    def __init__(self, directions):
        self.directions = directions
        self.points = []

    def say(self, line):
        """The answer to a line, or "no " and the name of the refusal, behind which all stays."""
        try:
            return answer(self, line)
        except NoWord:
            return "no NoWord"
        except NoPoint:
            return "no NoPoint"
        except NotPoint:
            return "no NotPoint"
        except TooMany:
            return "no TooMany"
        except TooFew:
            return "no TooFew"
        except NoDepth:
            return "no NoDepth"
