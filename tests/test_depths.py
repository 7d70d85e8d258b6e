"""Promises 20 to 22: the depth of a spot, and a deep spot; and of 2 and 3 what they touch."""

import itertools
import unittest

from heapsmeet.cuts import depth_holds, shows
from heapsmeet.depths import deep, depth
from heapsmeet.errors import HeapsError, NoDepth, TooFew, TooMany
from heapsmeet.heapspaper import heaps_hold
from tests.support import (
    HUGE, ask, cuts_round, depth_by_words, depth_of, depth_ok, dice, heaps_ok, is_row, is_row_of_wholes, is_whole, lowest,
    shown, some_points, some_spot,
)

LINE = [(0, 1), (4, 1), (2, 1), (6, 1), (9, 2)]
SQUARE = [(0, 0, 1), (4, 0, 1), (4, 4, 1), (0, 4, 1)]
CUBE = [(a, b, c, 1) for a in (0, 2) for b in (0, 2) for c in (0, 2)]
# As many heaps as are let, by directions.
MOST = {1: 7, 2: 5, 3: 4}


def refused(case, refusal, function, *args, **named):
    with case.assertRaises(HeapsError) as caught:
        function(*args, **named)
    case.assertIs(type(caught.exception), refusal)
    case.assertIsInstance(caught.exception, ValueError)


class Depth(unittest.TestCase):
    def told(self, points, spot):
        """The depth, once held against the document's words and the checker."""
        paper = ask(depth, points, spot)
        self.assertTrue(is_row(paper, 2) and is_whole(paper[0]) and is_row_of_wholes(paper[1], len(spot) - 1))
        self.assertTrue(depth_ok(points, spot, paper), (points, spot, paper))
        self.assertIs(depth_holds(points, spot, paper), True)
        self.assertEqual(shows(points, spot, paper[1]), paper[0])
        if len(spot) == 3:
            self.assertEqual(paper[0], depth_by_words(points, spot), (points, spot))
        return paper[0]

    def test_in_a_line(self):
        for points, spot, number in [
            (LINE, (0, 1), 1), (LINE, (3, 1), 2), (LINE, (4, 1), 3), (LINE, (9, 2), 2), (LINE, (-1, 1), 0), (LINE, (7, 1), 0),
            (LINE, (6, 1), 1), (LINE, (2, 1), 2), ([(2, 1)], (2, 1), 1), ([(2, 1)], (3, 1), 0), ([(2, 1)], (1, 1), 0),
            ([(1, 2)] * 5, (1, 2), 5), ([(1, 2)] * 5, (1, 3), 0), ([(1, 2)] * 5 + [(0, 1), (1, 1)], (1, 2), 6),
            ([(k, 1) for k in range(40)], (20, 1), 20), ([(k, 1) for k in range(39)], (19, 1), 20),
        ]:
            self.assertEqual(self.told(points, spot), number, (points, spot))

    def test_in_a_plane(self):
        for points, spot, number in [
            ([(1, 1, 1)], (1, 1, 1), 1), ([(1, 1, 1)], (0, 1, 1), 0), (SQUARE, (2, 2, 1), 2), (SQUARE, (0, 0, 1), 1),
            (SQUARE, (2, 0, 1), 1), (SQUARE, (5, 5, 1), 0), (SQUARE, (1, 2, 1), 1), (SQUARE + [(2, 2, 1)], (2, 2, 1), 3),
            (SQUARE * 2 + [(2, 2, 1)] * 3, (2, 2, 1), 7), (SQUARE + [(1, 1, 1), (3, 1, 1), (2, 3, 1)], (2, 2, 1), 3),
        ]:
            self.assertEqual(self.told(points, spot), number, (points, spot))

    def test_no_points(self):
        for spot in [(0, 1), (5, 7), (0, 0, 1), (-3, 8, 5), (HUGE, 2), (HUGE, -HUGE, 2)]:
            self.assertEqual(self.told([], spot), 0)

    def test_one_point(self):
        throw = dice(70)
        for directions in (1, 2):
            for turn in range(20):
                point, spot = some_points(throw, directions, 2, 3, 3)
                self.assertEqual(self.told([point], spot), int(point == spot))
                self.assertEqual(self.told([point], point), 1)

    def test_all_points_at_the_spot(self):
        for spot in [(3, 1), (-1, 60), (2, 5, 3), (0, 0, 1), (10000, -10000, 1)]:
            for many in (1, 2, 3, 20):
                self.assertEqual(self.told([spot] * many, spot), many)

    def test_some_points_at_the_spot(self):
        throw = dice(71)
        for directions in (1, 2):
            for turn in range(15):
                points = some_points(throw, directions, throw.randint(1, 9), 3, 2)
                spot = some_spot(throw, directions, 2, 2)
                number = self.told(points, spot)
                for more in (1, 2, 7):
                    at = throw.randint(0, len(points))
                    self.assertEqual(self.told(points[:at] + [spot] * more + points[at:], spot), number + more)

    def test_points_on_one_line_through_the_spot(self):
        for steps in itertools.product((-2, -1, 0, 1, 2), repeat=3):
            number = min(sum(1 for k in steps if k >= 0), sum(1 for k in steps if k <= 0))
            self.assertEqual(self.told([(3 + 2 * k, 1 - k, 1) for k in steps], (3, 1, 1)), number)
            self.assertEqual(self.told([(0, k, 1) for k in steps], (0, 0, 1)), number)
        self.assertEqual(self.told([(k, 0, 1) for k in (-2, -1, 1, 2, 3)], (0, 0, 1)), 2)
        self.assertEqual(self.told([(k, k, 1) for k in (1, 2, 3)], (0, 0, 1)), 0)

    def test_points_on_lines_on_both_sides_of_the_spot(self):
        around = [(2, 0, 1), (1, 0, 1), (-1, 0, 1), (0, 2, 1), (0, -1, 1), (0, -2, 1), (3, 3, 1), (-3, -3, 1), (1, -1, 1)]
        for count in range(1, len(around) + 1):
            for chosen in itertools.combinations(around, count):
                self.assertEqual(self.told(list(chosen), (0, 0, 1)), depth_by_words(list(chosen), (0, 0, 1)))

    def test_a_spot_far_off(self):
        for far in (10 ** 6, HUGE):
            for points, spot in [
                (LINE, (far, 1)), (LINE, (-far, 7)), (SQUARE, (far, 1, 1)), (SQUARE, (-far, far, 1)), (SQUARE, (far, far, 1)),
                (SQUARE * 5, (2, -far, 1)), (SQUARE, (far - 1, far, 3)),
            ]:
                self.assertEqual(self.told(points, lowest(spot[:-1], spot[-1])), 0)

    def test_a_hair_beside_a_line_of_two_points(self):
        square = SQUARE[:]
        for hair in (10 ** 6, 10 ** 30, HUGE):
            # At the middle of a side, a hair within the square and a hair without.
            self.assertEqual(self.told(square, lowest((2 * hair, 1), hair)), 1)
            self.assertEqual(self.told(square, lowest((2 * hair, -1), hair)), 0)
            # Beside the lines of two corners at odds, where all four points lie in two pairs.
            self.assertEqual(self.told(square, lowest((2 * hair, 2 * hair + 1), hair)), 1)
            self.assertEqual(self.told(square + square, lowest((2 * hair + 1, 2 * hair + 1), hair)), 2)
            # Beside the line of two points that lie far from one another.
            two = [(-10000, -9999, 1), (10000, 9999, 1)]
            self.assertEqual(self.told(two, (0, 0, 1)), 1)
            self.assertEqual(self.told(two, lowest((0, 1), hair)), 0)
            self.assertEqual(self.told([(-10000, 1), (10000, 1)], lowest((10000 * hair - 1,), hair)), 1)
            self.assertEqual(self.told([(-10000, 1), (10000, 1)], lowest((10000 * hair + 1,), hair)), 0)

    def test_lines_a_hair_from_one_another(self):
        # From the spot these points lie in ways that differ by less than a part of ten thousand.
        points = [(10000, 9999, 1), (9999, 9998, 1), (-9998, -9997, 1), (-9997, -9996, 1), (1, 1, 1), (-1, -1, 1)]
        for count in range(1, 7):
            for chosen in itertools.combinations(points, count):
                self.told(list(chosen), (0, 0, 1))

    def test_points_with_bottoms_and_at_the_farthest_places(self):
        throw = dice(72)
        far = [(a * 10000, b * 10000, c) for a in (-1, 1) for b in (-1, 1) for c in (1, 59)]
        far = [lowest(point[:2], point[2]) for point in far]
        for turn in range(12):
            points = throw.sample(far, throw.randint(2, 8)) + some_points(throw, 2, 4, 10000, 60)
            self.told(points, (0, 0, 1))
            self.told(points, throw.choice(points))
            self.told(points, some_spot(throw, 2, 100, 60))
            self.told([(p[0], p[2]) if p[2] == 1 else lowest(p[:1], p[2]) for p in points], some_spot(throw, 1, 10000, 60))

    def test_twenty_points_in_a_plane(self):
        throw = dice(73)
        seen = set()
        for turn in range(12):
            reach, bottom = throw.choice(((2, 1), (9, 4), (10000, 60)))
            points = some_points(throw, 2, 20, reach, bottom)
            seen.add(self.told(points, throw.choice((throw.choice(points), some_spot(throw, 2, reach // 4, bottom)))))
        self.assertGreater(len(seen), 3)
        # A ring round the spot, and a spot within it beside the middle.
        ring = [(3, 1, 1), (1, 3, 1), (-1, 3, 1), (-3, 1, 1), (-3, -1, 1), (-1, -3, 1), (1, -3, 1), (3, -1, 1), (2, 2, 1), (-2, -2, 1)]
        self.assertEqual(self.told(ring * 2, (0, 0, 1)), 10)
        self.assertEqual(self.told(ring * 2, (0, 1, 1)), 6)

    def test_more_points_than_twenty(self):
        throw = dice(74)
        self.told(some_points(throw, 2, 40, 5, 3), (0, 0, 1))
        self.told(some_points(throw, 1, 40, 50, 3), (0, 1))

    def test_by_chance(self):
        throw = dice(75)
        seen = set()
        for directions in (1, 2):
            for turn in range(60):
                reach, bottom = throw.choice(((1, 1), (3, 2), (9, 9)))
                points = some_points(throw, directions, throw.randint(1, 12), reach, bottom)
                seen.add(self.told(points, some_spot(throw, directions, reach, bottom)))
        self.assertGreater(len(seen), 4)

    def test_no_cut_shows_less(self):
        throw = dice(76)
        for turn in range(25):
            points = some_points(throw, 2, throw.choice((2, 4, 8)), 3, 2)
            spot = some_spot(throw, 2, 2, 2)
            number = self.told(points, spot)
            for cut in itertools.product(range(-6, 7), repeat=2):
                if any(cut):
                    self.assertGreaterEqual(shown(points, spot, cut), number)

    def test_a_point_more_never_makes_it_less_deep(self):
        throw = dice(77)
        for directions in (1, 2):
            for turn in range(12):
                spot = some_spot(throw, directions, 2, 2)
                points, last = [], 0
                for point in some_points(throw, directions, 12, 3, 2):
                    points.insert(throw.randint(0, len(points)), point)
                    number = self.told(points, spot)
                    self.assertIn(number, (last, last + 1))
                    last = number

    def test_in_space(self):
        for points in ([], CUBE, CUBE[:1], [(1, 1, 1, 1)] * 5):
            for spot in [(1, 1, 1, 1), (0, 0, 0, 1), (9, -9, 9, 5)]:
                kept = list(points)
                refused(self, NoDepth, depth, points, spot)
                refused(self, NoDepth, depth, spot=spot, points=points)
                self.assertEqual(points, kept)

    def test_what_is_told_does_not_hang_on_what_is_handed_in(self):
        points = [(0, 1), (4, 1), (1, 1)]
        paper = depth(points, (1, 1))
        points[2] = (9, 1)
        self.assertTrue(depth_ok([(0, 1), (4, 1), (1, 1)], (1, 1), paper))
        self.assertEqual(self.told(points, (1, 1)), 1)

    def test_by_names_in_any_order(self):
        self.assertEqual(depth(spot=(4, 1), points=LINE)[0], 3)
        self.assertEqual(depth(points=LINE, spot=(5, 1))[0], 1)


class Deep(unittest.TestCase):
    def told(self, points):
        """The paper, once held against the document's words, and its spot against its depth."""
        width = len(points[0])
        many = next(m for m in itertools.count(1) if m * width >= len(points))
        paper = ask(deep, points)
        self.assertTrue(heaps_ok(points, many, paper), (points, paper))
        self.assertIs(heaps_hold(points, many, paper), True)
        if width < 4:
            self.assertGreaterEqual(depth_of(points, paper[1]), many)
            self.assertGreaterEqual(depth(points, paper[1])[0], many)
        else:
            for cut in itertools.product((-2, -1, 0, 1, 3), repeat=3):
                if any(cut):
                    self.assertGreaterEqual(shown(points, paper[1], cut), many)
        return paper

    def test_no_points(self):
        refused(self, TooFew, deep, [])
        refused(self, TooFew, deep, points=[])

    def test_one_point(self):
        for point in [(5, 1), (-1, 60), (1, 2, 3), (0, 0, 0, 1), (10000, -10000, 1, 60)]:
            paper = self.told([point])
            self.assertEqual(paper[:2], (((0,),), point))

    def test_as_many_as_make_the_next_heap_and_one_more_or_fewer(self):
        throw = dice(78)
        for directions, most in MOST.items():
            for many in range(1, most + 1):
                for more in (-1, 0, 1):
                    count = many * (directions + 1) + more
                    heaps_then = many + (more > 0)
                    for reach, bottom in ((2, 1), (9, 4), (10000, 60)):
                        points = some_points(throw, directions, count, reach, bottom)
                        if heaps_then > most:
                            refused(self, TooMany, deep, points)
                        else:
                            self.assertEqual(len(self.told(points)[0]), heaps_then)

    def test_more_heaps_than_are_let(self):
        throw = dice(79)
        for directions, most in MOST.items():
            for count in (most * (directions + 1) + 1, 20, 21, 30, 40):
                points = some_points(throw, directions, count)
                kept = list(points)
                refused(self, TooMany, deep, points)
                refused(self, TooMany, deep, points=points)
                refused(self, TooMany, deep, points[:1] * count)
                self.assertEqual(points, kept)

    def test_a_middle_point_of_a_line(self):
        self.assertEqual(self.told([(k * k, 1) for k in range(13)])[1], (36, 1))
        self.assertEqual(self.told([(k, 1) for k in (5, 1, 3)])[1], (3, 1))

    def test_points_alike(self):
        for directions, most in MOST.items():
            point = some_points(dice(80), directions, 1, 10000, 60)[0]
            for count in (1, 2, directions + 2, most * (directions + 1)):
                self.assertEqual(self.told([point] * count)[1], point)

    def test_points_on_a_line(self):
        steps = [5, -3, 8, 0, 1, 9, -7, 2, 4, -1, 6, 3]
        self.told([(k, 2 * k + 1, 1) for k in steps])
        self.told([(k, -k, 3 * k, 1) for k in steps])

    def test_each_side_of_every_cut(self):
        throw = dice(81)
        for turn in range(8):
            points = some_points(throw, 2, 12, 9, 3)
            spot = self.told(points)[1]
            for cut in cuts_round(points, spot):
                self.assertGreaterEqual(shown(points, spot, cut), 4)

    def test_what_is_told_does_not_hang_on_what_is_handed_in(self):
        points = [(0, 1), (4, 1), (1, 1)]
        paper = deep(points)
        points[2] = (9, 1)
        self.assertTrue(heaps_ok([(0, 1), (4, 1), (1, 1)], 2, paper))
        self.assertEqual(self.told(points)[1], (4, 1))

    def test_by_name(self):
        self.assertEqual(deep(points=[(3, 1)] * 3)[1], (3, 1))


if __name__ == "__main__":
    unittest.main()
