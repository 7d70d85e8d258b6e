"""Promise 24: a rainbow round a spot; and of 2 and 3 what they touch."""

import itertools
import unittest

from heapsmeet.choosing import rainbow
from heapsmeet.errors import HeapsError, NotHeld
from heapsmeet.hulls import within_holds
from heapsmeet.places import place
from heapsmeet.rainbows import rainbow_holds
from tests.support import (
    HUGE, ask, changed, dice, is_row, lowest, mix_places, odd_things, places_of, rainbow_ok, some_groups, some_points,
    some_shares, some_spot, told, twisted,
)

LINE = [(0, 1), (4, 1), (2, 1), (7, 1), (19, 2), (3, 1)]
FLAT = [(0, 0, 1), (6, 0, 1), (0, 6, 1), (2, 2, 1), (4, 4, 1), (-3, 2, 1), (2, -5, 1), (7, 2, 1), (2, 9, 1), (2, 2, 1)]
CUBE = [(a, b, c, 1) for a in (-1, 1) for b in (-1, 1) for c in (-1, 1)] + [(0, 0, 0, 1)]
EVEN = (0, 3, 5, 6)
ODD = (1, 2, 4, 7)

# Points, colours, a spot and a paper of a rainbow round it.
PAPERS = [
    (LINE, [(0, 3), (0, 1)], (3, 1), ((0, 1), ((0, 1), (1, 3)))),
    (LINE, [(0, 3), (2, 4)], (3, 1), ((3, 2), ((0, 1), (1, 4)))),
    (LINE, [(5,), (0, 1)], (3, 1), ((5, 0), ((0, 2),))),
    (LINE, [(0, 1), (0, 1)], (3, 1), ((1, 0), ((0, 3), (1, 1)))),
    (LINE, [(5,), (5,)], (3, 1), ((5, 5), ((0, 1), (1, 1)))),
    (FLAT, [(0, 4), (5, 7), (6, 8)], (2, 2, 1), ((0, 7, 8), ((0, 35), (1, 14), (2, 10)))),
    (FLAT, [(0, 4), (0, 4), (6, 8)], (2, 2, 1), ((0, 4, 6), ((0, 1), (1, 1)))),
    (FLAT, [(3,), (9,), (3, 9)], (2, 2, 1), ((3, 9, 9), ((0, 1), (1, 2), (2, 9)))),
    (CUBE, [EVEN, EVEN, EVEN, EVEN], (0, 0, 0, 1), ((6, 0, 3, 5), ((0, 1), (1, 1), (2, 1), (3, 1)))),
    (CUBE, [EVEN, ODD, EVEN, (8,)], (0, 0, 0, 1), ((6, 1, 0, 8), ((0, 1), (1, 1)))),
    (CUBE, [EVEN, ODD, EVEN, (8,)], (0, 0, 0, 1), ((6, 2, 0, 8), ((3, 7),))),
]


class RainbowHolds(unittest.TestCase):
    def no(self, points, colours, spot, thing):
        self.assertIs(ask(rainbow_holds, points, colours, spot, thing), False, (points, colours, spot, thing))

    def as_told(self, points, colours, spot, thing):
        answer = ask(rainbow_holds, points, colours, spot, thing)
        self.assertIs(answer, rainbow_ok(points, colours, spot, thing), (points, colours, spot, thing))
        return answer

    def test_papers_that_hold(self):
        for points, colours, spot, paper in PAPERS:
            self.assertTrue(rainbow_ok(points, colours, spot, paper), (colours, spot, paper))
            self.assertIs(ask(rainbow_holds, points, colours, spot, paper), True)

    def test_shares_that_are_as_many_times_greater(self):
        for points, colours, spot, (choice, shares) in PAPERS:
            more = tuple((at, s * HUGE) for at, s in shares)
            self.assertIs(ask(rainbow_holds, points, colours, spot, (choice, more)), True)

    def test_another_spot(self):
        for points, colours, spot, paper in PAPERS:
            for other in [(HUGE, 2), (3, 2), (1, 3, 1), (2, 2, 3), (0, 0, 1, 60), (0, 1, 0, 1)]:
                if len(other) == len(spot):
                    self.no(points, colours, other, paper)

    def test_a_choice_of_a_point_of_another_colour(self):
        # By shares that are right of the point as it is, where it is one of another colour.
        self.no(LINE, [(0, 3), (0, 1)], (3, 1), ((1, 0), ((0, 3), (1, 1))))
        self.assertIs(rainbow_holds(LINE, [(0, 1, 3), (0, 1)], (3, 1), ((1, 0), ((0, 3), (1, 1)))), True)
        points, colours, spot, (choice, shares) = PAPERS[5]
        for at in range(3):
            for k in range(len(points)):
                if k not in colours[at]:
                    self.no(points, colours, spot, ((*choice[:at], k, *choice[at + 1:]), shares))
        # A point at the very place of one of the colour, but of none.
        points, colours, spot, (choice, shares) = PAPERS[2]
        self.no(points + [(3, 1)], colours, spot, ((6, 0), shares))
        # Also where the wrong one has no share.
        self.no(points, colours, spot, ((5, 5), shares))
        self.no(CUBE, [EVEN, ODD, EVEN, (8,)], (0, 0, 0, 1), ((6, 0, 0, 8), ((3, 1),)))

    def test_places_within_a_colour_are_no_numbers(self):
        # The point's number is told, not its place within its colour.
        self.assertIs(rainbow_holds(LINE, [(5,), (1, 5)], (3, 1), ((5, 5), ((0, 1),))), True)
        self.no(LINE, [(5,), (1, 5)], (3, 1), ((0, 1), ((0, 1),)))
        self.no(LINE, [(5,), (1, 5)], (3, 1), ((0, 5), ((1, 1),)))

    def test_shares_are_numbered_as_the_colours_are(self):
        self.no(LINE, [(0, 1), (3, 5)], (3, 1), ((0, 5), ((5, 1),)))
        self.assertIs(rainbow_holds(LINE, [(0, 1), (3, 5)], (3, 1), ((0, 5), ((1, 1),))), True)
        for at in (-1, 2, 5, HUGE):
            self.no(LINE, [(0, 1), (3, 5)], (3, 1), ((0, 5), ((at, 1),)))
        self.no(LINE, [(0, 1), (3, 5)], (3, 1), ((0, 5), ((1, 1), (2, 1))))

    def test_a_number_of_no_point(self):
        for k in (-1, 6, 7, HUGE, -HUGE):
            self.no(LINE, [(5,), (0, 1)], (3, 1), ((5, k), ((0, 1),)))
            self.no(LINE, [(5,), (0, 1)], (3, 1), ((k, 0), ((0, 1),)))

    def test_a_share_nought_or_below(self):
        for points, colours, spot, (choice, shares) in PAPERS:
            for at, (k, s) in enumerate(shares):
                for share in (0, -1, -s, -HUGE):
                    self.no(points, colours, spot, (choice, (*shares[:at], (k, share), *shares[at + 1:])))
        self.no(LINE, [(5,), (0, 1)], (3, 1), ((5, 0), ((0, 2), (1, 0))))
        self.no(LINE, [(0, 1), (5,)], (3, 1), ((0, 5), ((0, 0), (1, 1))))

    def test_one_more_and_one_less(self):
        for points, colours, spot, (choice, shares) in PAPERS:
            for at, (k, s) in enumerate(shares):
                for share in (s + 1, s - 1):
                    self.as_told(points, colours, spot, (choice, (*shares[:at], (k, share), *shares[at + 1:])))
        points, colours, spot, (choice, shares) = PAPERS[5]
        for at, (k, s) in enumerate(shares):
            for share in (s + 1, s - 1):
                self.no(points, colours, spot, (choice, (*shares[:at], (k, share), *shares[at + 1:])))

    def test_rows_turned_about_twice_or_left_out(self):
        points, colours, spot, (choice, shares) = PAPERS[5]
        for order in itertools.permutations(range(3)):
            if order != (0, 1, 2):
                self.no(points, colours, spot, (choice, tuple(shares[k] for k in order)))
                self.no(points, colours, spot, (tuple(choice[k] for k in order), shares))
        for at in range(3):
            self.no(points, colours, spot, (choice, shares[:at] + shares[at + 1:]))
            self.no(points, colours, spot, (choice, shares[:at] + shares[at:at + 1] * 2 + shares[at + 1:]))
            self.no(points, colours, spot, (choice[:at] + choice[at + 1:], shares))
            self.no(points, colours, spot, (choice[:at] + choice[at:at + 1] * 2 + choice[at + 1:], shares))
        self.no(points, colours, spot, (choice, ()))
        self.no(points, colours, spot, ((), shares))

    def test_pairs_that_are_none(self):
        for points, colours, spot, (choice, shares) in PAPERS:
            for wrong in [
                (), (choice,), (shares,), (shares, choice), (choice, shares, ()), (choice, shares, shares), [choice, shares],
                ((choice, shares),), choice, shares, {0: choice, 1: shares}, (list(choice), shares), (choice, list(shares)),
                (choice, dict(shares)), (dict(enumerate(choice)), shares), (choice, None), (None, shares), (choice, choice),
                (choice, shares[0]), (choice[0], shares), ((choice,), shares), (choice, (shares,)), spot,
            ]:
                self.no(points, colours, spot, wrong)

    def test_rows_too_long_and_too_short_and_lists(self):
        for points, colours, spot, (choice, shares) in PAPERS:
            k, s = shares[0]
            for row in [(k,), (k, s, 1), (k, s, s), [k, s], (), k, (k, (s,)), ((k, s),), {k: s}, None, (None, s), (k, None)]:
                self.no(points, colours, spot, (choice, (row, *shares[1:])))
            for row in [choice[:-1], (*choice, choice[-1]), (*choice, 0), (choice[0],) * 9]:
                self.no(points, colours, spot, (row, shares))
            for part in [None, True, "0", "", (choice[0],), [choice[0]], {choice[0]: 1}, colours[0], ()]:
                self.no(points, colours, spot, ((part, *choice[1:]), shares))

    def test_truths_in_numbers_places(self):
        points, colours = [(0, 1), (4, 1)], [(0, 1), (0, 1)]
        self.assertIs(rainbow_holds(points, colours, (2, 1), ((0, 1), ((0, 1), (1, 1)))), True)
        for thing in [
            ((False, 1), ((0, 1), (1, 1))), ((0, True), ((0, 1), (1, 1))), ((0, 1), ((False, 1), (1, 1))),
            ((0, 1), ((0, True), (1, 1))), ((0, 1), ((0, 1), (True, 1))), ((0, 1), ((0, 1), (1, True))),
        ]:
            self.no(points, colours, (2, 1), thing)

    def test_a_part_of_another_kind(self):
        for points, colours, spot, paper in PAPERS:
            for thing in twisted(paper):
                self.no(points, colours, spot, thing)

    def test_a_little_changed(self):
        held = 0
        for points, colours, spot, paper in PAPERS:
            for thing in changed(paper):
                held += self.as_told(points, colours, spot, thing)
        self.assertGreater(held, 10)

    def test_whatever(self):
        for points, colours, spot, (choice, shares) in (PAPERS[0], PAPERS[5], PAPERS[8]):
            for thing in odd_things():
                for wrong in [
                    thing, (thing, shares), (choice, thing), (thing, thing), ((thing,) * len(colours), shares),
                    (choice, ((0, thing),)), (choice, (thing, *shares)),
                ]:
                    self.no(points, colours, spot, wrong)

    def test_by_chance(self):
        throw = dice(90)
        held = 0
        for directions in (1, 2, 3):
            for turn in range(60):
                points = some_points(throw, directions, 6, 3, 2)
                colours = some_groups(throw, 6, directions + 1)
                choice = tuple(throw.choice(colour) for colour in colours)
                shares = some_shares(throw, directions + 1, 3)
                spot = told(mix_places([places_of(points[k]) for k in choice], shares))
                self.assertIs(ask(rainbow_holds, points, colours, spot, (choice, shares)), True)
                for thing in changed((choice, shares)):
                    held += self.as_told(points, colours, spot, thing)
        self.assertGreater(held, 50)

    def test_by_names_in_any_order(self):
        points, colours, spot, paper = PAPERS[0]
        self.assertIs(rainbow_holds(thing=paper, spot=spot, colours=colours, points=points), True)
        self.assertIs(rainbow_holds(spot=(2, 1), points=points, thing=paper, colours=colours), False)


def round_spot(throw, directions, spot, many, reach=9):
    """Points round the spot, the last one against the sum of the others, so that it lies in their hull."""
    arrows = [[throw.randint(-reach, reach) for k in range(directions)] for j in range(many)]
    arrows.append([-sum(column) for column in zip(*arrows)])
    return [lowest([n + a * spot[-1] for n, a in zip(spot, arrow)], spot[-1]) for arrow in arrows]


def held_points(throw, directions, spot, most):
    """Points and colours of which each holds the spot."""
    points, colours = [], []
    for colour in range(directions + 1):
        own = round_spot(throw, directions, spot, throw.randint(1, most))
        colours.append(tuple(range(len(points), len(points) + len(own))))
        points += own
    return points, colours


class Rainbow(unittest.TestCase):
    def told(self, points, colours, spot):
        """The paper, once held against the document's words and the checker."""
        paper = ask(rainbow, points, colours, spot)
        self.assertTrue(rainbow_ok(points, colours, spot, paper), (points, colours, spot, paper))
        self.assertIs(rainbow_holds(points, colours, spot, paper), True)
        for part in (paper, *paper, *paper[1]):
            self.assertTrue(is_row(part))
        return paper

    def refused(self, points, colours, spot, colour):
        with self.assertRaises(HeapsError) as caught:
            rainbow(points, colours, spot)
        self.assertIs(type(caught.exception), NotHeld)
        self.assertIsInstance(caught.exception, ValueError)
        self.assertIs(type(caught.exception.colour), int)
        self.assertEqual(caught.exception.colour, colour, (points, colours, spot))
        kept = list(points), list(colours)
        with self.assertRaises(NotHeld) as caught:
            rainbow(spot=spot, points=points, colours=colours)
        self.assertEqual(caught.exception.colour, colour)
        self.assertEqual((points, colours), kept)

    def test_by_hand(self):
        for points, colours, spot, paper in PAPERS:
            self.told(points, colours, spot)

    def test_all_colours_hold_the_spot(self):
        throw = dice(91)
        for directions in (1, 2, 3):
            for most in (1, 2, 4, 9):
                for turn in range(8):
                    spot = some_spot(throw, directions, 20, throw.choice((1, 7, 60)))
                    self.told(*held_points(throw, directions, spot, most), spot)

    def test_forty_points_of_each_colour(self):
        throw = dice(92)
        for directions in (1, 2, 3):
            points = some_points(throw, directions, 40, 10000, 60)
            colours = [tuple(range(40))] * (directions + 1)
            self.told(points, colours, told(mix_places([places_of(p) for p in points], some_shares(throw, 40))))
            self.told(points, colours, points[17])

    def test_a_colour_of_one_point(self):
        throw = dice(93)
        for directions in (1, 2, 3):
            for at in range(directions + 1):
                spot = some_spot(throw, directions, 20, 6)
                points, colours = held_points(throw, directions, spot, 3)
                colours[at] = (len(points),)
                self.told(points + [spot], colours, spot)
                self.refused(points + [lowest([n + 1 for n in spot[:-1]], spot[-1])], colours, spot, at)

    def test_one_point_for_two_colours(self):
        self.assertEqual(self.told([(3, 1)], [(0,), (0,)], (3, 1))[0], (0, 0))
        for colours in itertools.product([(0,), (0, 1), (0, 2), (0, 1, 2)], repeat=3):
            self.told([(1, 2, 3), (5, 5, 1), (9, -9, 4)], list(colours), (1, 2, 3))

    def test_the_spot_at_a_point(self):
        throw = dice(94)
        for directions in (1, 2, 3):
            for turn in range(6):
                points = some_points(throw, directions, 7, 10000, 60)
                colours = [tuple(sorted({3, *group})) for group in some_groups(throw, 7, directions + 1)]
                self.told(points, colours, points[3])

    def test_the_spot_at_an_edge(self):
        # It lies on a side of each colour's hull, or at a corner.
        points = [(0, 0, 1), (6, 6, 1), (9, 0, 1), (3, 3, 1), (8, 2, 1), (0, 6, 1), (6, 0, 1), (9, 9, 1)]
        for colours in itertools.permutations([(0, 1, 2), (3, 4), (5, 6, 7)]):
            self.told(points, list(colours), (3, 3, 1))

    def test_the_first_colour_that_does_not_hold_it(self):
        throw = dice(95)
        for directions in (1, 2, 3):
            for at in range(directions + 1):
                for turn in range(4):
                    spot = some_spot(throw, directions, 9, 4)
                    points, colours = held_points(throw, directions, spot, 3)
                    points += [lowest([n + k * spot[-1] for n in spot[:-1]], spot[-1]) for k in (1, 2, 5)]
                    away = tuple(range(len(points) - 3, len(points)))
                    colours[at] = away[throw.randint(0, 2):]
                    self.refused(points, colours, spot, at)
                    for later in range(at + 1, directions + 1):
                        if throw.random() < 0.6:
                            colours[later] = away
                    self.refused(points, colours, spot, at)
                    self.refused(points, colours[:at] + [away] * (directions + 1 - at), spot, at)

    def test_all_colours_do_not_hold_it(self):
        for spot in [(HUGE, 1), (9, 5), (4, 4, 1), (1, 2, HUGE), (2, 2, 2, 1), (0, 0, HUGE, 1)]:
            points = [(n,) * (len(spot) - 1) + (1,) for n in (-3, 0, 1)]
            self.refused(points, [(0, 1, 2)] * len(spot), spot, 0)

    def test_refused_although_a_rainbow_is_to_be_had(self):
        # A mix of one of each comes to the spot, but a colour's hull doesn't hold it.
        self.assertIs(rainbow_holds([(0, 1), (4, 1)], [(0,), (1,)], (2, 1), ((0, 1), ((0, 1), (1, 1)))), True)
        self.refused([(0, 1), (4, 1)], [(0,), (1,)], (2, 1), 0)
        self.refused([(0, 1), (4, 1)], [(0, 1), (1,)], (2, 1), 1)
        self.refused([(0, 0, 1), (6, 0, 1), (0, 6, 1), (2, 2, 1)], [(3,), (1, 2), (2, 3)], (2, 2, 1), 1)

    def test_a_hair_beside(self):
        points = [(-10000, -9999, 1), (10000, 9999, 1), (0, 0, 1)]
        self.told(points, [(0, 1), (2,), (0, 1, 2)], (0, 0, 1))
        for hair in (10 ** 6, HUGE):
            self.refused(points, [(0, 1), (0, 1), (0, 1)], lowest((0, 1), hair), 0)
        far = points + [(0, 9, 1)]
        self.told(far, [(0, 1, 3)] * 3, lowest((0, 1), HUGE))
        self.refused(far, [(0, 1, 3), (0, 1, 3), (0, 1)], lowest((0, 1), HUGE), 2)

    def test_held_just_where_each_hull_holds_it(self):
        throw = dice(96)
        seen = set()
        for directions in (1, 2, 3):
            for turn in range(60):
                points = some_points(throw, directions, 9, 2, 2)
                colours = some_groups(throw, 9, directions + 1)
                spot = some_spot(throw, directions, 1, 2)
                words = [place([points[k] for k in colour], spot)[0] for colour in colours]
                if "without" in words:
                    self.refused(points, colours, spot, words.index("without"))
                    seen.add(words.index("without"))
                else:
                    choice, shares = self.told(points, colours, spot)
                    seen.add("held")
                    # Of points that are chosen once the shares tell that the spot lies among them.
                    self.assertIs(within_holds([points[k] for k in choice], spot, shares), True)
        self.assertEqual(seen, {0, 1, 2, 3, "held"})

    def test_what_is_told_does_not_hang_on_what_is_handed_in(self):
        points, colours = [(0, 1), (4, 1), (2, 1)], [(0, 1), (2,)]
        paper = rainbow(points, colours, (2, 1))
        points[2] = (9, 1)
        colours[0] = (0,)
        self.assertTrue(rainbow_ok([(0, 1), (4, 1), (2, 1)], [(0, 1), (2,)], (2, 1), paper))
        self.refused(points, colours, (2, 1), 0)

    def test_by_names_in_any_order(self):
        self.assertEqual(rainbow(spot=(3, 1), colours=[(0,), (0,)], points=[(3, 1)])[0], (0, 0))


if __name__ == "__main__":
    unittest.main()
