"""What the tests share: the document's own sums by fractions, and things of all kinds.

Nothing here uses the program. The sums are worked out from the words of the
document, so that a test never takes a checker's word for what a maker told.
"""

import copy
import itertools
import random
from fractions import Fraction
from math import gcd, lcm

HUGE = 10 ** 299 + 7


def alike(one, other):
    """Whether two things are the same in kinds and values, so that 1 isn't True."""
    if type(one) is not type(other):
        return False
    if isinstance(one, (list, tuple)):
        return len(one) == len(other) and all(alike(a, b) for a, b in zip(one, other))
    if isinstance(one, dict):
        return alike(list(one.items()), list(other.items()))
    return one == other


def ask(function, *args, **named):
    """The answer; fails if what is handed in is changed, or asked again it is another one."""
    kept = copy.deepcopy((list(args), named))
    first = function(*args, **named)
    if not alike((list(args), named), kept):
        raise AssertionError(f"{function.__name__} wrote into what it was handed")
    second = function(*args, **named)
    if not alike(first, second):
        raise AssertionError(f"{function.__name__} answers otherwise when asked again")
    fresh = copy.deepcopy(kept)
    if not alike(function(*fresh[0], **fresh[1]), first):
        raise AssertionError(f"{function.__name__} answers otherwise of the same handed in anew")
    return first


def is_whole(thing):
    return type(thing) is int


def is_row(thing, many=None):
    return type(thing) is tuple and (many is None or len(thing) == many)


def is_row_of_wholes(thing, many=None):
    return is_row(thing, many) and all(is_whole(part) for part in thing)


def lowest(numbers, bottom):
    """The row of numbers and bottom in lowest terms, the bottom above 0."""
    row = [*numbers, bottom]
    common = gcd(*row)
    if bottom < 0:
        common = -common
    return tuple(number // common for number in row)


def told(places):
    """Places, which are fractions, told like a spot."""
    bottom = lcm(*[place.denominator for place in places])
    return lowest([int(place * bottom) for place in places], bottom)


def places_of(spot):
    return [Fraction(number, spot[-1]) for number in spot[:-1]]


def spot_ok(thing):
    if not is_row_of_wholes(thing) or len(thing) not in (2, 3, 4):
        return False
    return thing[-1] >= 1 and gcd(*thing) == 1


def shares_ok(many, thing):
    if not is_row(thing) or len(thing) < 1:
        return False
    if not all(is_row_of_wholes(part, 2) for part in thing):
        return False
    names = [k for k, s in thing]
    return (
        names == sorted(set(names))
        and all(k in range(many) for k in names)
        and all(s >= 1 for k, s in thing)
    )


def mix_places(all_places, shares):
    together = sum(s for k, s in shares)
    directions = range(len(all_places[shares[0][0]]))
    return [
        sum((Fraction(s) * all_places[k][at] for k, s in shares), Fraction(0)) / together
        for at in directions
    ]


def tie_ok(points, thing):
    if not is_row_of_wholes(thing, len(points)):
        return False
    if all(number == 0 for number in thing) or sum(thing) != 0:
        return False
    sums = [
        sum(number * place for number, place in zip(thing, column))
        for column in zip(*[places_of(point) for point in points])
    ]
    return all(total == 0 for total in sums)


def has_tie(points):
    """Whether points have a tie: whether their rows of places and 1 aren't free of each other."""
    rows = [[*places_of(point), Fraction(1)] for point in points]
    return rank(rows) < len(points)


def rank(rows):
    rows = [list(row) for row in rows]
    found = 0
    for column in range(len(rows[0]) if rows else 0):
        heads = [at for at in range(found, len(rows)) if rows[at][column] != 0]
        if not heads:
            continue
        rows[found], rows[heads[0]] = rows[heads[0]], rows[found]
        for at in range(found + 1, len(rows)):
            factor = rows[at][column] / rows[found][column]
            rows[at] = [a - factor * b for a, b in zip(rows[at], rows[found])]
        found += 1
    return found


def near_ok(arrows, thing):
    if not shares_ok(len(arrows), thing):
        return False
    mix = mix_places(arrows, thing)
    square = sum(place * place for place in mix)
    return all(sum(place * n for place, n in zip(mix, arrow)) >= square for arrow in arrows)


def within_ok(points, spot, thing):
    if not shares_ok(len(points), thing) or len(thing) > len(spot):
        return False
    return mix_places([places_of(point) for point in points], thing) == places_of(spot)


def sum_at(row, spot):
    return sum((number * place for number, place in zip(row, places_of(spot))), Fraction(0))


def without_ok(points, spot, thing):
    if not is_row(thing, 2):
        return False
    row, t = thing
    if not is_row_of_wholes(row, len(spot) - 1) or not is_whole(t):
        return False
    if all(number == 0 for number in row):
        return False
    return all(sum_at(row, point) <= t for point in points) and sum_at(row, spot) > t


def shared_ok(points, groups, thing):
    if not is_row(thing, 2):
        return False
    spot, rows = thing
    if not spot_ok(spot) or len(spot) != len(points[0]) or not is_row(rows, len(groups)):
        return False
    all_places = [places_of(point) for point in points]
    return all(
        shares_ok(len(points), row)
        and {k for k, s in row} <= set(group)
        and mix_places(all_places, row) == places_of(spot)
        for group, row in zip(groups, rows)
    )


def apart_ok(points, groups, thing):
    directions = len(points[0]) - 1
    if not is_row(thing, len(groups)):
        return False
    for pair in thing:
        if not is_row(pair, 2) or not is_row_of_wholes(pair[0], directions) or not is_whole(pair[1]):
            return False
    if any(sum(column) != 0 for column in zip(*[row for row, t in thing])):
        return False
    if sum(t for row, t in thing) >= 0:
        return False
    return all(sum_at(row, points[k]) <= t for group, (row, t) in zip(groups, thing) for k in group)


def heaps_ok(points, many, thing):
    if not is_row(thing, 3) or not is_row(thing[0], many):
        return False
    for heap in thing[0]:
        if not is_row_of_wholes(heap) or len(heap) == 0 or list(heap) != sorted(set(heap)):
            return False
    if any(sum(heap.count(k) for heap in thing[0]) != 1 for k in range(len(points))):
        return False
    if any(k not in range(len(points)) for heap in thing[0] for k in heap):
        return False
    return shared_ok(points, list(thing[0]), thing[1:])


def square_of(places):
    return sum((place * place for place in places), Fraction(0))


def trail_ok(colours, thing):
    if not is_row(thing) or len(thing) == 0:
        return False
    squares = []
    for step in thing:
        if not is_row(step, 2) or not is_row_of_wholes(step[0], len(colours)):
            return False
        if any(k not in range(len(colour)) for k, colour in zip(step[0], colours)):
            return False
        chosen = [colour[k] for k, colour in zip(step[0], colours)]
        if not near_ok(chosen, step[1]):
            return False
        squares.append(square_of(mix_places(chosen, step[1])))
    if any(k != 0 for k in thing[0][0]) or [at for at, n in enumerate(squares) if n == 0] != [len(thing) - 1]:
        return False
    for ahead, behind in zip(thing, thing[1:]):
        other = [at for at, (k, j) in enumerate(zip(ahead[0], behind[0])) if k != j]
        if len(other) != 1 or other[0] in [at for at, s in ahead[1]]:
            return False
    return all(behind < ahead for ahead, behind in zip(squares, squares[1:]))


def shown(points, spot, cut):
    return sum(1 for point in points if sum_at(cut, point) >= sum_at(cut, spot))


def cuts_round(points, spot):
    """Cuts that show all there is to be shown, in line or plane: through each point, and a hair beside."""
    if len(spot) == 2:
        return [(1,), (-1,)]
    cuts = [(1, 0), (0, -1)]
    for point in points:
        arrow = [a - b for a, b in zip(places_of(point), places_of(spot))]
        whole = lcm(*[place.denominator for place in arrow])
        x, y = [int(place * whole) for place in arrow]
        far = 10 ** 700
        if (x, y) != (0, 0):
            for side in (1, -1):
                cuts.append((-y * side, x * side))
                for hair in (1, -1):
                    cuts.append((-y * side * far + x * hair, x * side * far + y * hair))
    return cuts


def depth_of(points, spot):
    """The least number that any cut shows, in line or plane."""
    return min(shown(points, spot, cut) for cut in cuts_round(points, spot))


def depth_ok(points, spot, thing):
    if not is_row(thing, 2) or not is_whole(thing[0]) or not is_row_of_wholes(thing[1], len(spot) - 1):
        return False
    if all(number == 0 for number in thing[1]):
        return False
    return shown(points, spot, thing[1]) == thing[0] == depth_of(points, spot)


def depth_by_words(points, spot):
    """The depth in a plane by the counts of [21]."""
    middle = places_of(spot)
    arrows = [[a - b for a, b in zip(places_of(point), middle)] for point in points]
    z = sum(1 for arrow in arrows if arrow == [0, 0])
    counts = []
    for x, y in arrows:
        if (x, y) != (0, 0):
            turns = [(x * b - y * a, x * a + y * b) for a, b in arrows]
            l, r = [sum(1 for turn, along in turns if turn * side > 0) for side in (1, -1)]
            f, b = [sum(1 for turn, along in turns if turn == 0 and along * side > 0) for side in (1, -1)]
            counts += [z + l + f, z + l + b, z + r + f, z + r + b]
    return min(counts, default=z)


def group_shares_ok(points, group, thing):
    return shares_ok(len(points), thing) and {k for k, s in thing} <= set(group)


def gap_ok(points, one, other, thing):
    if not is_row(thing, 2):
        return False
    if not group_shares_ok(points, one, thing[0]) or not group_shares_ok(points, other, thing[1]):
        return False
    all_places = [places_of(point) for point in points]
    x, y = [mix_places(all_places, shares) for shares in thing]

    def along(goal, start):
        return sum((a - b) * (c - d) for a, b, c, d in zip(x, y, goal, start))

    return all(along(all_places[k], x) >= 0 for k in one) and all(along(all_places[k], y) <= 0 for k in other)


def gap_of(points, thing):
    """The square of the distance of a pair of shares' mixes."""
    all_places = [places_of(point) for point in points]
    x, y = [mix_places(all_places, shares) for shares in thing]
    return square_of([a - b for a, b in zip(x, y)])


def rainbow_ok(points, colours, spot, thing):
    if not is_row(thing, 2) or not is_row_of_wholes(thing[0], len(colours)):
        return False
    if any(k not in colour for k, colour in zip(thing[0], colours)) or not shares_ok(len(colours), thing[1]):
        return False
    return mix_places([places_of(points[k]) for k in thing[0]], thing[1]) == places_of(spot)


def partings_of(count, many):
    """All partings of so many points into so many heaps, in order of their least points, in order."""
    found = set()
    for owners in itertools.product(range(many), repeat=count):
        heaps = [tuple(k for k in range(count) if owners[k] == heap) for heap in range(many)]
        if all(heaps):
            found.add(tuple(sorted(heaps)))
    return sorted(found)


def nested(kind, depth):
    """A thing with so many things within one another."""
    thing = 1
    for level in range(depth):
        thing = {0: thing} if kind is dict else kind([thing])
    return thing


def odd_things():
    """Things of all kinds, none of which is a paper, shares, a spot or points (but [])."""
    deep = [nested(kind, depth) for kind in (tuple, list, dict) for depth in (1, 2, 3, 29, 30)]
    return deep + [
        None, True, False, 0, 1, -1, 2, HUGE, -HUGE,
        "", "0", "a", "within", "(0, 1)", "0 1\n", "~" * 5100, "((0, 1),)",
        (), ((),), ((), ()), [()], [[]], [[], []], ([],), ({},), {},
        {0: 1}, {"a": None}, {(0, 1): (1, 1)}, {0: (0, 1)}, {0: {0: {0: 0}}},
        (None,), (None, None), (True,), (True, True), (False, 1), ((True, True),),
        ("0", "1"), (("0", "1"),), ("ab",), ("ab", "cd"), ["ab"],
        [0, 1], [[0, 1]], [(0, True)], ([0, 1],), ((0,), (1,)), (((0, 1),),), ((0, 1), None),
        ((0, None),), ((None, 1),), (((0,), 1),), ((0, (1,)),), ((0, [1]),), (({}, 1),),
        (None,) * 1199, [None] * 1199, ({},) * 40, tuple([0, [1]] for k in range(300)),
    ]


def wrong_for(part):
    """Things of another kind than the part, a number or a row."""
    if is_whole(part):
        return [True, False, None, str(part), "", (part,), [part], {part: part}, ()]
    listed = [list(part), None, True, False, 0, 1, "", str(part)[:80], {}, {0: part}, [part], (part,)]
    return listed + [dict(enumerate(part))]


def twisted(paper):
    """All papers that differ from a paper by one part that is of another kind."""
    for wrong in wrong_for(paper):
        yield wrong
    if isinstance(paper, tuple):
        for at, part in enumerate(paper):
            for wrong in twisted(part):
                yield (*paper[:at], wrong, *paper[at + 1:])


def changed(paper):
    """Papers of the right kinds that differ a little: numbers, and rows' lengths and orders."""
    if is_whole(paper):
        for other in (paper - 1, paper + 1, -paper, 0, 2 * paper, HUGE, -HUGE):
            yield other
        return
    yield paper[::-1]
    yield paper[1:]
    yield paper[:-1]
    yield ()
    for part in (0, 1, (), (0, 1), (1, 1), paper):
        yield (*paper, part)
    for at, part in enumerate(paper):
        yield (*paper[:at], part, *paper[at:])
        yield (*paper[:at], *paper[at + 1:])
        for other in changed(part):
            yield (*paper[:at], other, *paper[at + 1:])


def dice(seed):
    """The same throws each time."""
    return random.Random(seed)


def some_spot(throw, directions, reach=9, bottom=4):
    return lowest([throw.randint(-reach, reach) for k in range(directions)], throw.randint(1, bottom))


def some_points(throw, directions, many, reach=9, bottom=4):
    return [some_spot(throw, directions, reach, bottom) for k in range(many)]


def some_arrows(throw, size, many, reach=9):
    return [tuple(throw.randint(-reach, reach) for k in range(size)) for j in range(many)]


def some_groups(throw, many, count, most=None):
    """So many groups of some of many points."""
    return [
        tuple(sorted(throw.sample(range(many), throw.randint(1, min(many, most or many)))))
        for group in range(count)
    ]


def held_colours(throw, size, most, reach=9):
    """Colours of which each holds nought: one arrow of each goes against the sum of its others."""
    colours = []
    for colour in range(size + 1):
        arrows = some_arrows(throw, size, throw.randint(1, most - 1), reach)
        arrows.append(tuple(-sum(column) for column in zip(*arrows)))
        throw.shuffle(arrows)
        colours.append(arrows)
    return colours


def some_shares(throw, many, most=9):
    names = sorted(throw.sample(range(many), throw.randint(1, many)))
    return tuple((k, throw.randint(1, most)) for k in names)
