"""Promises 20 and 21: what a cut shows, and which paper of a spot's depth holds; and of 2 and 3 what they touch."""

import itertools
import unittest

from heapsmeet.cuts import depth_holds, shows
from tests.support import (
    HUGE, ask, changed, cuts_round, depth_of, depth_ok, dice, is_whole, lowest, odd_things, places_of, shown, some_points,
    some_spot, twisted,
)

LINE = [(0, 1), (4, 1), (2, 1), (6, 1), (9, 2)]
SQUARE = [(0, 0, 1), (4, 0, 1), (4, 4, 1), (0, 4, 1)]
CUBE = [(a, b, c, 1) for a in (0, 2) for b in (0, 2) for c in (0, 2)]

# Points, a spot, its depth and a cut that shows it.
DEPTHS = [
    ([], (0, 1), 0, (1,)), ([], (0, 1), 0, (-9,)), ([], (3, 4, 7), 0, (5, -5)), ([(2, 1)], (2, 1), 1, (1,)),
    ([(2, 1)], (3, 1), 0, (1,)), ([(2, 1)], (3, 1), 0, (HUGE,)), ([(2, 1)], (1, 1), 0, (-3,)), (LINE, (0, 1), 1, (-1,)),
    (LINE, (3, 1), 2, (-1,)), (LINE, (4, 1), 3, (1,)), (LINE, (4, 1), 3, (-1,)), (LINE, (9, 2), 2, (1,)),
    (LINE, (-1, 1), 0, (-2,)), ([(1, 2)] * 5, (1, 2), 5, (4,)), ([(1, 2)] * 5, (1, 3), 0, (-1,)),
    ([(1, 1, 1)], (1, 1, 1), 1, (3, 4)), ([(1, 1, 1)], (0, 1, 1), 0, (-1, 0)), (SQUARE, (2, 2, 1), 2, (2, 1)),
    (SQUARE, (2, 2, 1), 2, (0, -1)), (SQUARE, (0, 0, 1), 1, (-1, -1)), (SQUARE, (2, 0, 1), 1, (-1, -9)),
    (SQUARE, (5, 5, 1), 0, (1, 0)), (SQUARE, (1, 2, 1), 1, (-1, 1)), (SQUARE + [(2, 2, 1)], (2, 2, 1), 3, (2, 1)),
    (SQUARE * 2 + [(2, 2, 1)] * 3, (2, 2, 1), 7, (1, 2)), ([(7, 3, 1)] * 4, (7, 3, 1), 4, (0, -1)),
    ([(0, 0, 1), (1, 2, 1), (2, 4, 1)], (1, 2, 1), 2, (1, 1)), ([(0, 0, 1), (1, 2, 1), (2, 4, 1)], (1, 3, 1), 0, (-2, 1)),
]


class Shows(unittest.TestCase):
    def told(self, points, spot, cut):
        number = ask(shows, points, spot, cut)
        self.assertTrue(is_whole(number))
        self.assertEqual(number, shown(points, spot, cut), (points, spot, cut))
        return number

    def test_by_hand(self):
        for points, spot, cut, number in [
            (LINE, (4, 1), (1,), 3), (LINE, (4, 1), (-1,), 3), (LINE, (7, 1), (1,), 0), (LINE, (7, 1), (-1,), 5),
            (LINE, (0, 1), (5,), 5), (LINE, (0, 1), (-5,), 1), (LINE, (9, 2), (1,), 2), (LINE, (9, 2), (-1,), 4),
            (SQUARE, (2, 2, 1), (1, 0), 2), (SQUARE, (2, 2, 1), (1, 1), 3), (SQUARE, (2, 2, 1), (-1, 1), 3),
            (SQUARE, (0, 0, 1), (1, 1), 4), (SQUARE, (0, 0, 1), (-1, -1), 1), (SQUARE, (5, 5, 1), (1, 1), 0),
            (SQUARE, (4, 4, 1), (1, 0), 2), (SQUARE, (4, 4, 1), (0, -1), 4), (SQUARE, (1, 3, 1), (3, 1), 2),
            (CUBE, (1, 1, 1, 1), (1, 1, 1), 4), (CUBE, (1, 1, 1, 1), (1, 1, 0), 6), (CUBE, (0, 0, 0, 1), (0, 0, -1), 4),
            (CUBE, (2, 2, 2, 1), (1, 1, 1), 1), (CUBE, (3, 3, 3, 1), (1, 1, 1), 0), (CUBE, (3, 3, 3, 1), (-1, 0, 0), 8),
        ]:
            self.assertEqual(self.told(points, spot, cut), number, (points, spot, cut))

    def test_no_points(self):
        for spot, cut in [((0, 1), (1,)), ((0, 0, 1), (0, 1)), ((1, 2, 3, 4), (0, 0, -1))]:
            self.assertEqual(self.told([], spot, cut), 0)

    def test_a_spot_at_a_point_is_shown(self):
        throw = dice(60)
        for directions in (1, 2, 3):
            for turn in range(10):
                points = some_points(throw, directions, 6, 10000, 60)
                for cut in itertools.product((-1, 0, 1), repeat=directions):
                    if any(cut):
                        self.assertGreaterEqual(self.told(points, points[3], cut), 1)
                        self.assertEqual(self.told(points[:1] * 5, points[0], cut), 5)

    def test_a_hair_beside(self):
        for point, spot, number in [((1, 60), (1, 59), 0), ((1, 59), (1, 60), 1), ((2, 1), lowest((2 * HUGE - 1,), HUGE), 1)]:
            self.assertEqual(self.told([point], spot, (1,)), number)
            self.assertEqual(self.told([point], spot, (-1,)), 1 - number)
        self.assertEqual(self.told([(2, 1)], lowest((2 * HUGE + 1,), HUGE), (HUGE,)), 0)
        self.assertEqual(self.told(SQUARE, (2, 2, 1), (HUGE, HUGE - 1)), 2)
        self.assertEqual(self.told(SQUARE, (2, 2, 1), (HUGE, HUGE)), 3)

    def test_by_chance(self):
        throw = dice(61)
        for directions in (1, 2, 3):
            for turn in range(40):
                points = some_points(throw, directions, throw.choice((1, 2, 7, 40)), throw.choice((2, 10000)), 60)
                cut = tuple(throw.randint(-5, 5) for k in range(directions))
                if any(cut):
                    spot = some_spot(throw, directions, 3, 5)
                    back = tuple(-n for n in cut)
                    # Each point is shown by one of the two, or by both.
                    self.assertGreaterEqual(self.told(points, spot, cut) + self.told(points, spot, back), len(points))

    def test_by_names_in_any_order(self):
        self.assertEqual(shows(cut=(1,), spot=(4, 1), points=LINE), 3)
        self.assertEqual(shows(points=LINE, spot=(5, 1), cut=(1,)), 1)


class DepthHolds(unittest.TestCase):
    def no(self, points, spot, thing):
        self.assertIs(ask(depth_holds, points, spot, thing), False, (points, spot, thing))

    def test_papers_that_hold(self):
        for points, spot, number, cut in DEPTHS:
            self.assertEqual(depth_of(points, spot), number, (points, spot))
            self.assertIs(ask(depth_holds, points, spot, (number, cut)), True, (points, spot, number, cut))

    def test_one_more_and_one_less(self):
        for points, spot, number, cut in DEPTHS:
            for other in (number + 1, number - 1, -number - 1, number + HUGE, -HUGE, len(points) + 1):
                self.no(points, spot, (other, cut))

    def test_a_cut_that_shows_more(self):
        seen = 0
        for points, spot, number, cut in DEPTHS:
            for other in cuts_round(points, spot) + [tuple(-n for n in cut)]:
                count = shown(points, spot, other)
                self.assertIs(ask(depth_holds, points, spot, (number, other)), count == number)
                if count != number:
                    seen += 1
                    # What a cut shows is no depth where another one shows less.
                    self.no(points, spot, (count, other))
                    self.no(points, spot, (count - 1, other))
        self.assertGreater(seen, 40)

    def test_a_cut_that_is_none(self):
        for points, spot, number, cut in DEPTHS:
            noughts = (0,) * len(cut)
            for wrong in [
                noughts, (), cut[:-1], (*cut, 0), (*cut, 1), (0, *cut), list(cut), (cut,), cut[0], None, True, "", "1",
                {0: 1}, (*cut[:-1], None), (*cut[:-1], True), (*cut[:-1], str(cut[-1])), (*cut[:-1], [cut[-1]]),
            ]:
                self.no(points, spot, (number, wrong))
                # Of noughts alone each point would be shown.
                self.no(points, spot, (len(points), wrong))

    def test_truths_in_numbers_places(self):
        self.assertIs(depth_holds([(2, 1)], (2, 1), (1, (1,))), True)
        for thing in [(True, (1,)), (1, (True,)), (True, (True,))]:
            self.no([(2, 1)], (2, 1), thing)
        self.assertIs(depth_holds([(2, 1)], (3, 1), (0, (1,))), True)
        for thing in [(False, (1,)), (0, (True,))]:
            self.no([(2, 1)], (3, 1), thing)
        self.assertIs(depth_holds(SQUARE, (5, 5, 1), (0, (1, 0))), True)
        for thing in [(False, (1, 0)), (0, (True, 0)), (0, (1, False)), (0, (True, False))]:
            self.no(SQUARE, (5, 5, 1), thing)

    def test_pairs_that_are_none(self):
        for points, spot, number, cut in DEPTHS:
            for wrong in [
                (number,), (cut,), (), (cut, number), (number, cut, cut), (number, cut, 0), [number, cut], (number, *cut),
                ((number, cut),), number, cut, {number: cut}, {0: number, 1: cut}, (None, cut), ((number,), cut), (str(number), cut),
            ]:
                self.no(points, spot, wrong)

    def test_a_part_of_another_kind(self):
        for points, spot, number, cut in DEPTHS:
            for thing in twisted((number, cut)):
                self.no(points, spot, thing)

    def test_a_little_changed(self):
        for points, spot, number, cut in DEPTHS:
            for thing in changed((number, cut)):
                self.assertIs(ask(depth_holds, points, spot, thing), depth_ok(points, spot, thing), (points, spot, thing))

    def test_whatever(self):
        for points, spot, number, cut in (DEPTHS[0], DEPTHS[2], DEPTHS[9], DEPTHS[-1]):
            for thing in odd_things():
                self.no(points, spot, thing)
                if not depth_ok(points, spot, (number, thing)):
                    self.no(points, spot, (number, thing))
                if not is_whole(thing):
                    self.no(points, spot, (thing, cut))
                self.no(points, spot, (number, (thing, thing, thing)))

    def each_number(self, points, spot):
        """Holds all pairs of a number and a cut round the spot against the depth."""
        cuts = cuts_round(points, spot)
        depth = depth_of(points, spot)
        found = 0
        for cut in cuts:
            count = shown(points, spot, cut)
            self.assertIs(depth_holds(points, spot, (count, cut)), count == depth, (points, spot, count, cut))
            found += count == depth
        self.assertGreater(found, 0)
        return depth

    def test_in_a_line_by_chance(self):
        throw = dice(62)
        seen = set()
        for turn in range(120):
            reach, bottom = throw.choice(((2, 1), (5, 3), (10000, 60)))
            points = some_points(throw, 1, throw.choice((1, 2, 5, 9, 40)), reach, bottom)
            spot = throw.choice((throw.choice(points), some_spot(throw, 1, reach, bottom)))
            depth = self.each_number(points, spot)
            places = [places_of(point)[0] for point in points]
            middle = places_of(spot)[0]
            below, above = [p for p in places if p <= middle], [p for p in places if p >= middle]
            self.assertEqual(depth, min(len(below), len(above)))
            seen.add(depth)
        self.assertGreater(len(seen), 5)

    def test_in_a_plane_by_chance(self):
        throw = dice(63)
        seen = set()
        for turn in range(90):
            reach, bottom = throw.choice(((1, 1), (3, 2), (10000, 60)))
            points = some_points(throw, 2, throw.choice((1, 2, 3, 5, 9, 20)), reach, bottom)
            spot = throw.choice((throw.choice(points), some_spot(throw, 2, reach // 2 + 1, bottom)))
            seen.add(self.each_number(points, spot))
        self.assertGreater(len(seen), 4)

    def test_no_cut_shows_less(self):
        throw = dice(64)
        for turn in range(40):
            points = some_points(throw, 2, throw.choice((2, 4, 8)), 3, 2)
            spot = some_spot(throw, 2, 2, 2)
            depth = self.each_number(points, spot)
            for cut in itertools.product(range(-7, 8), repeat=2):
                if any(cut):
                    count = shown(points, spot, cut)
                    self.assertGreaterEqual(count, depth)
                    self.assertIs(depth_holds(points, spot, (count, cut)), count == depth)

    def test_points_on_both_ends_of_lines(self):
        # Lines through the spot with points before and behind it, as many on each side of the line.
        around = [(2, 0, 1), (1, 0, 1), (-1, 0, 1), (0, 2, 1), (0, -1, 1), (0, -2, 1), (3, 3, 1), (-3, -3, 1), (1, -1, 1)]
        for count in range(1, len(around) + 1):
            for more in (0, 1, 3):
                self.each_number(around[:count] + [(0, 0, 1)] * more, (0, 0, 1))
        self.assertEqual(self.each_number([(k, 0, 1) for k in (-2, -1, 1, 2, 3)], (0, 0, 1)), 2)
        self.assertEqual(self.each_number([(k, k, 1) for k in (1, 2, 3)], (0, 0, 1)), 0)
        self.assertEqual(self.each_number([(k, k, 1) for k in (-1, 2, 3)], (0, 0, 1)), 1)

    def test_all_points_at_the_spot(self):
        for spot in [(3, 1), (-1, 60), (2, 5, 3), (0, 0, 1)]:
            for many in (1, 2, 20):
                for cut in ((1, 0), (-4, 7), (0, -HUGE)):
                    paper = (many, cut[:len(spot) - 1] if cut[0] else (1,) * (len(spot) - 1))
                    self.assertIs(ask(depth_holds, [spot] * many, spot, paper), True)
                    self.no([spot] * many, spot, (many - 1, paper[1]))

    def test_by_names_in_any_order(self):
        self.assertIs(depth_holds(points=LINE, spot=(4, 1), thing=(3, (1,))), True)
        self.assertIs(depth_holds(thing=(2, (1,)), spot=(4, 1), points=LINE), False)


if __name__ == "__main__":
    unittest.main()
