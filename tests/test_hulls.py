"""Promise 9: papers of a spot within and without points; and of 2 and 3 what they touch."""

import itertools
import unittest

from heapsmeet.hulls import within_holds, without_holds
from heapsmeet.places import place
from heapsmeet.shares import mixed
from tests.support import (
    HUGE, ask, changed, dice, lowest, odd_things, places_of, some_points, some_shares, some_spot, sum_at,
    twisted, within_ok, without_ok,
)

LINE = [(0, 1), (4, 1)]
SQUARE = [(0, 0, 1), (4, 0, 1), (4, 4, 1), (0, 4, 1)]
CUBE = [(a, b, c, 1) for a in (0, 2) for b in (0, 2) for c in (0, 2)]

WITHIN = [
    (LINE, (0, 1), ((0, 1),)), (LINE, (0, 1), ((0, 5),)), (LINE, (2, 1), ((0, 1), (1, 1))),
    (LINE, (1, 1), ((0, 3), (1, 1))), (LINE, (1, 1), ((0, 3 * HUGE), (1, HUGE))), (LINE, (4, 1), ((1, 1),)),
    ([(1, 2), (1, 3)], (5, 12), ((0, 1), (1, 1))), ([(3, 1), (3, 1)], (3, 1), ((0, 2), (1, 7))),
    (SQUARE, (2, 2, 1), ((0, 1), (2, 1))), (SQUARE, (2, 2, 1), ((1, 1), (3, 1))),
    (SQUARE, (2, 0, 1), ((0, 1), (1, 1))), (SQUARE, (4, 8, 3), ((0, 1), (2, 1), (3, 1))),
    (CUBE, (1, 1, 1, 1), ((0, 1), (7, 1))), (CUBE, (1, 1, 1, 1), ((0, 1), (3, 1), (5, 1), (6, 1))),
    (CUBE, (0, 0, 0, 1), ((0, 1),)), (CUBE, (0, 1, 1, 1), ((1, 2), (2, 2))),
]
WITHOUT = [
    (LINE, (5, 1), ((1,), 4)), (LINE, (-1, 1), ((-1,), 0)), (LINE, (9, 2), ((1,), 4)), (LINE, (HUGE, 1), ((1,), 9)),
    (LINE, (4 * HUGE + 1, HUGE), ((1,), 4)), ([(1, 2)], (2, 3), ((2,), 1)), ([], (0, 1), ((1,), -1)),
    (SQUARE, (5, 2, 1), ((1, 0), 4)), (SQUARE, (5, 5, 1), ((1, 1), 8)), (SQUARE, (-1, 2, 1), ((-1, 0), 0)),
    (SQUARE, (2, -1, 7), ((0, -1), 0)), ([], (7, 8, 1), ((0, 1), 7)), (SQUARE, (9, 2, 1), ((HUGE, 0), 4 * HUGE)),
    (CUBE, (0, 0, 3, 1), ((0, 0, 1), 2)), (CUBE, (0, 0, 5, 2), ((0, 0, 1), 2)), (CUBE, (3, 3, 3, 1), ((1, 1, 1), 6)),
    ([], (0, 0, 0, 1), ((0, 0, 5), -1)), ([(1, 1, 1, 2)] * 3, (0, 0, 0, 1), ((-2, 0, 0), -1)),
]


class WithinHolds(unittest.TestCase):
    def test_papers_that_hold(self):
        for points, spot, paper in WITHIN:
            self.assertTrue(within_ok(points, spot, paper), (points, spot, paper))
            self.assertIs(ask(within_holds, points, spot, paper), True, (points, spot, paper))

    def test_another_spot(self):
        for points, spot, paper in WITHIN:
            for at in range(len(spot) - 1):
                for step in (1, -1):
                    beside = list(spot[:-1])
                    beside[at] += step
                    self.assertIs(ask(within_holds, points, lowest(beside, spot[-1]), paper), False)
            # A hair beside the spot.
            near = lowest([HUGE * n + 1 for n in spot[:-1]], HUGE * spot[-1])
            self.assertIs(ask(within_holds, points, near, paper), False)
            if any(spot[:-1]):
                self.assertIs(ask(within_holds, points, lowest(spot[:-1], spot[-1] + 1), paper), False)

    def test_more_than_d_and_one_shares(self):
        for points, spot in (([(k, 1) for k in range(-3, 4)], (0, 1)), (SQUARE, (2, 2, 1)), (CUBE, (1, 1, 1, 1))):
            even = tuple((k, 1) for k in range(len(points)))
            self.assertEqual(mixed(points, even), spot)
            self.assertIs(ask(within_holds, points, spot, even), False)
        self.assertIs(ask(within_holds, [(0, 1)] * 3, (0, 1), ((0, 1), (1, 1), (2, 1))), False)
        self.assertIs(ask(within_holds, [(0, 1)] * 3, (0, 1), ((0, 1), (2, 1))), True)
        self.assertIs(ask(within_holds, [(0, 0, 1)] * 4, (0, 0, 1), tuple((k, 1) for k in range(4))), False)
        self.assertIs(ask(within_holds, [(0, 0, 1)] * 4, (0, 0, 1), tuple((k, 1) for k in range(3))), True)
        self.assertIs(ask(within_holds, [(0, 0, 0, 1)] * 5, (0, 0, 0, 1), tuple((k, 1) for k in range(5))), False)
        self.assertIs(ask(within_holds, [(0, 0, 0, 1)] * 5, (0, 0, 0, 1), tuple((k, 1) for k in range(4))), True)

    def test_no_points(self):
        for spot in [(0, 1), (1, 2, 3), (0, 0, 0, 1)]:
            for thing in odd_things() + [((0, 1),)]:
                self.assertIs(ask(within_holds, [], spot, thing), False)

    def test_each_clause_of_shares_broken(self):
        points = [(0, 1), (0, 1), (0, 1)]
        for thing in [
            (), ((0, 0),), ((0, -1),), ((-1, 1),), ((3, 1),), ((0, 1), (0, 1)), ((1, 1), (0, 1)), ((0, 1), (1, 0)),
            ((0,),), ((0, 1, 1),), (0, 1), [(0, 1)], ([0, 1],), ((0, True),), ((False, 1),), ((0, 1), (3, 1)),
        ]:
            self.assertIs(ask(within_holds, points, (0, 1), thing), False, thing)

    def test_a_part_of_another_kind(self):
        for points, spot, paper in WITHIN:
            for thing in twisted(paper):
                self.assertIs(ask(within_holds, points, spot, thing), False, thing)

    def test_a_little_changed(self):
        for points, spot, paper in WITHIN:
            for thing in changed(paper):
                self.assertIs(ask(within_holds, points, spot, thing), within_ok(points, spot, thing), thing)

    def test_whatever(self):
        for points, spot, paper in (WITHIN[0], WITHIN[8], WITHIN[12]):
            for thing in odd_things():
                self.assertIs(ask(within_holds, points, spot, thing), False)
                self.assertIs(ask(within_holds, points, spot, (thing,)), False)
                self.assertIs(ask(within_holds, points, spot, (paper[0], thing)), False)
                if type(thing) is not int:
                    self.assertIs(ask(within_holds, points, spot, ((0, thing),)), False)

    def test_walls_are_no_shares(self):
        for points, spot, paper in WITHOUT:
            self.assertIs(ask(within_holds, points, spot, paper), False)
            self.assertIs(ask(within_holds, points, spot, ("without", paper)), False)
        self.assertIs(ask(within_holds, LINE, (0, 1), ("within", ((0, 1),))), False)

    def test_by_names_in_any_order(self):
        self.assertIs(within_holds(points=LINE, spot=(2, 1), thing=((0, 1), (1, 1))), True)
        self.assertIs(within_holds(thing=((0, 1), (1, 2)), points=LINE, spot=(2, 1)), False)


class WithoutHolds(unittest.TestCase):
    def test_papers_that_hold(self):
        for points, spot, paper in WITHOUT:
            self.assertTrue(without_ok(points, spot, paper), (points, spot, paper))
            self.assertIs(ask(without_holds, points, spot, paper), True, (points, spot, paper))

    def test_t_at_above_and_below_the_greatest_sum(self):
        for points, spot, (row, t) in WITHOUT:
            if not points:
                continue
            greatest = max(sum_at(row, point) for point in points)
            if greatest.denominator == 1:
                at = int(greatest)
                self.assertIs(ask(without_holds, points, spot, (row, at)), True)
                self.assertIs(ask(without_holds, points, spot, (row, at - 1)), False)
                above = sum_at(row, spot) > at + 1
                self.assertIs(ask(without_holds, points, spot, (row, at + 1)), above)

    def test_t_at_above_and_below_the_spots_sum(self):
        # The sum at the spot is 5: t has to be less.
        for t, answer in [(3, False), (4, True), (5, False), (6, False)]:
            self.assertIs(ask(without_holds, LINE, (5, 1), ((1,), t)), answer, t)
            self.assertIs(ask(without_holds, SQUARE, (5, 2, 1), ((1, 0), t)), answer, t)
        for t, answer in [(1, False), (2, True), (3, False)]:
            self.assertIs(ask(without_holds, CUBE, (0, 0, 3, 1), ((0, 0, 1), t)), answer, t)
        for t, answer in [(-2, True), (-1, True), (0, False), (1, False)]:
            self.assertIs(ask(without_holds, [], (0, 0, 1), ((3, 5), t)), answer, t)
        # The sum at the spot is 5/2.
        for t, answer in [(1, False), (2, True), (3, False)]:
            self.assertIs(ask(without_holds, CUBE, (0, 0, 5, 2), ((0, 0, 1), t)), answer, t)

    def test_each_point_counts(self):
        for at in range(40):
            points = [(0, 0, 1)] * 40
            points[at] = (1, 0, 1)
            self.assertIs(ask(without_holds, points, (2, 0, 1), ((1, 0), 1)), True)
            self.assertIs(ask(without_holds, points, (2, 0, 1), ((1, 0), 0)), False)
            points[at] = (1, 0, 60)
            self.assertIs(ask(without_holds, points, (2, 0, 1), ((1, 0), 1)), True)
            self.assertIs(ask(without_holds, points, (2, 0, 1), ((1, 0), 0)), False)

    def test_each_direction_counts(self):
        for at in range(3):
            row = tuple(int(k == at) for k in range(3))
            spot = tuple(3 * k for k in row) + (1,)
            for other in range(3):
                wall = (tuple(int(k == other) for k in range(3)), 2)
                self.assertIs(ask(without_holds, CUBE, spot, wall), at == other)

    def test_walls_of_noughts_alone(self):
        for points, spot, (row, t) in WITHOUT:
            for most in (t, 0, -1, 1, -HUGE):
                self.assertIs(ask(without_holds, points, spot, ((0,) * len(row), most)), False)
        for spot in [(0, 1), (5, 7, 1), (1, 2, 3, 4)]:
            self.assertIs(ask(without_holds, [], spot, ((0,) * (len(spot) - 1), -1)), False)

    def test_rows_too_long_and_too_short(self):
        for points, spot, (row, t) in WITHOUT:
            for other in [(*row, 0), (0, *row), row[1:], row[:-1], (), (*row, t), (*row, *row)]:
                self.assertIs(ask(without_holds, points, spot, (other, t)), False, other)
            for other in [(row, t, t), (row,), (t,), (t, row), (row, row), (*row, t), (row, t, None)]:
                self.assertIs(ask(without_holds, points, spot, other), False, other)

    def test_a_part_of_another_kind(self):
        for points, spot, paper in WITHOUT:
            for thing in twisted(paper):
                self.assertIs(ask(without_holds, points, spot, thing), False, thing)
        self.assertIs(ask(without_holds, [(0, 1)], (2, 1), ((1,), True)), False)
        self.assertIs(ask(without_holds, [(0, 1)], (2, 1), ((1,), False)), False)
        self.assertIs(ask(without_holds, [(0, 1)], (2, 1), ((True,), 0)), False)
        self.assertIs(ask(without_holds, [(0, 0, 1)], (2, 0, 1), ((1, False), 0)), False)

    def test_a_little_changed(self):
        for points, spot, paper in WITHOUT:
            for thing in changed(paper):
                self.assertIs(ask(without_holds, points, spot, thing), without_ok(points, spot, thing), thing)

    def test_whatever(self):
        for points, spot, (row, t) in (WITHOUT[0], WITHOUT[7], WITHOUT[13], WITHOUT[6]):
            for thing in odd_things():
                self.assertIs(ask(without_holds, points, spot, thing), False)
                self.assertIs(ask(without_holds, points, spot, (thing, thing)), False)
                if type(thing) is not int:
                    self.assertIs(ask(without_holds, points, spot, (row, thing)), False)
                    self.assertIs(ask(without_holds, points, spot, ((*row[:-1], thing), t)), False)
                self.assertIs(ask(without_holds, points, spot, (thing, t)), without_ok(points, spot, (thing, t)))

    def test_shares_are_no_walls(self):
        for points, spot, paper in WITHIN:
            self.assertIs(ask(without_holds, points, spot, paper), False)
            self.assertIs(ask(without_holds, points, spot, ("within", paper)), False)
        self.assertIs(ask(without_holds, LINE, (5, 1), ("without", ((1,), 4))), False)

    def test_by_names_in_any_order(self):
        self.assertIs(without_holds(points=LINE, spot=(5, 1), thing=((1,), 4)), True)
        self.assertIs(without_holds(thing=((1,), 3), spot=(5, 1), points=LINE), False)


class Place(unittest.TestCase):
    def told(self, points, spot):
        """Which of the two is told; its paper is held against the words of the document."""
        answer = ask(place, points, spot)
        self.assertIs(type(answer), tuple)
        self.assertEqual(len(answer), 2)
        word, paper = answer
        self.assertIn(word, ("within", "without"))
        self.assertEqual(within_ok(points, spot, paper), word == "within", (points, spot, answer))
        self.assertEqual(without_ok(points, spot, paper), word == "without", (points, spot, answer))
        self.assertIs(within_holds(points, spot, paper), word == "within")
        self.assertIs(without_holds(points, spot, paper), word == "without")
        return word

    def test_known_papers(self):
        for points, spot, paper in WITHIN:
            self.assertEqual(self.told(points, spot), "within")
        for points, spot, paper in WITHOUT:
            self.assertEqual(self.told(points, spot), "without")

    def test_known_places(self):
        for points, spot, word in [
            (LINE, (4, 1), "within"), (LINE, (5, 1), "without"), (LINE, (1, 7), "within"), (LINE, (-1, 60), "without"),
            (SQUARE, (4, 2, 1), "within"), (SQUARE, (4, 4, 1), "within"), (SQUARE, (2, 5, 1), "without"),
            (SQUARE, (1, 3, 1), "within"), (SQUARE, (9, 9, 2), "without"), (CUBE, (2, 1, 0, 1), "within"),
            (CUBE, (2, 2, 3, 1), "without"), (CUBE, (1, 1, 2, 1), "within"), (CUBE, (1, 2, 3, 2), "within"),
        ]:
            self.assertEqual(self.told(points, spot), word, (points, spot))

    def test_no_points(self):
        for spot in [(0, 1), (-7, 3), (HUGE, 1), (-HUGE, 2), (0, 0, 1), (5, -9, 60), (0, 0, 0, 1), (-1, -1, HUGE, 4)]:
            self.assertEqual(self.told([], spot), "without")

    def test_one_point_and_points_alike(self):
        throw = dice(9)
        for directions in (1, 2, 3):
            for turn in range(15):
                point, other = some_points(throw, directions, 2, 10000, 60)
                for many in (1, 2, 40):
                    self.assertEqual(self.told([point] * many, point), "within")
                    word = "within" if other == point else "without"
                    self.assertEqual(self.told([point] * many, other), word)

    def test_points_of_all_counts(self):
        throw = dice(91)
        words = {}
        for directions in (1, 2, 3):
            for reach, bottom in ((1, 1), (3, 2), (9, 5), (10000, 60)):
                for many in [1, 2, directions + 1, directions + 2, 8, 40] * 3:
                    points = some_points(throw, directions, many, reach, bottom)
                    spot = some_spot(throw, directions, reach, bottom)
                    word = self.told(points, spot)
                    words.setdefault((directions, word), spot)
                    self.assertEqual(self.told(points, points[many // 2]), "within")
        self.assertEqual(len(words), 6)

    def test_what_is_mixed_lies_within(self):
        throw = dice(92)
        for directions in (1, 2, 3):
            for many in (1, 2, 3, 6, 15, 40):
                for bottom in (1, 60):
                    points = some_points(throw, directions, many, 10000, bottom)
                    self.assertEqual(self.told(points, mixed(points, some_shares(throw, many))), "within")
                    few = points[:directions + 1]
                    self.assertEqual(self.told(points, mixed(few, some_shares(throw, len(few), HUGE))), "within")

    def test_on_the_edge_and_a_hair_beside(self):
        for at in range(3):
            for points, low, high in ((LINE, 0, 4), (SQUARE, 0, 4), (CUBE, 0, 2)):
                directions = len(points[0]) - 1
                if at >= directions:
                    continue
                for hair in (10, HUGE):
                    for side, sign in ((low, -1), (high, 1)):
                        middle = [hair] * directions
                        for step, word in ((0, "within"), (-sign, "within"), (sign, "without")):
                            middle[at] = side * hair + step
                            self.assertEqual(self.told(points, lowest(middle, hair)), word)

    def test_beside_a_slanted_edge(self):
        points = [(0, 0, 1), (3, 1, 1), (1, 5, 1)]
        self.assertEqual(self.told(points, (3, 1, 2)), "within")
        self.assertEqual(self.told(points, lowest((3 * HUGE, HUGE - 1), 2 * HUGE)), "without")
        self.assertEqual(self.told(points, lowest((3 * HUGE, HUGE + 1), 2 * HUGE)), "within")

    def test_far_off(self):
        throw = dice(93)
        for directions in (1, 2, 3):
            points = some_points(throw, directions, 40, 10000, 60)
            for turn in range(6):
                spot = tuple(throw.choice((-1, 1)) * HUGE for k in range(directions)) + (1,)
                self.assertEqual(self.told(points, spot), "without")
                self.assertEqual(self.told(points, (10001, *points[turn][1:-1], 1)), "without")

    def test_points_on_a_line_and_in_a_plane(self):
        line = [(k, 2 * k, 3 * k, 1) for k in (-3, 5, 1, 0, 4)]
        for spot, word in [
            ((0, 0, 0, 1), "within"), ((5, 10, 15, 1), "within"), ((6, 12, 18, 1), "without"), ((1, 2, 3, 2), "within"),
            ((1, 2, 4, 1), "without"), ((1, 2, 3, 1), "within"), ((-4, -8, -12, 1), "without"), ((0, 0, 1, HUGE), "without"),
        ]:
            self.assertEqual(self.told(line, spot), word, spot)
        flat = [(2, 4, 1), (-1, -2, 1), (1, 2, 2), (0, 0, 1)]
        for spot, word in [((1, 2, 1), "within"), ((3, 6, 1), "without"), ((1, 1, 1), "without"), ((-1, -2, 3), "within")]:
            self.assertEqual(self.told(flat, spot), word, spot)
        plane = [(0, 0, 5, 1), (6, 0, 5, 1), (0, 6, 5, 1), (6, 6, 5, 1), (1, 2, 5, 1)]
        for spot, word in [
            ((3, 3, 5, 1), "within"), ((3, 3, 6, 1), "without"), ((3, 3, 4, 1), "without"), ((7, 3, 5, 1), "without"),
            ((6, 3, 5, 1), "within"), ((9, 9, 15, 2), "without"), ((3, 3, 10, 2), "within"),
        ]:
            self.assertEqual(self.told(plane, lowest(spot[:-1], spot[-1])), word, spot)

    def test_all_spots_of_a_grid(self):
        points = [(0, 0, 1), (3, 1, 1), (1, 3, 1), (3, 3, 2)]
        for a, b in itertools.product(range(-2, 9), repeat=2):
            spot = lowest((a, b), 2)
            x, y = places_of(spot)
            inside = 3 * y >= x and 3 * x >= y and x + y <= 4
            self.assertEqual(self.told(points, spot), "within" if inside else "without", spot)

    def test_just_one_of_the_two_is_to_be_had(self):
        throw = dice(94)
        rows = [row for row in itertools.product(range(-2, 3), repeat=2) if any(row)]
        walls = [(row, t) for row in rows for t in range(-12, 13)]
        for turn in range(25):
            points = some_points(throw, 2, 3, 3, 2)
            spot = some_spot(throw, 2, 3, 2)
            papers = [
                tuple((k, s) for k, s in enumerate(weights) if s)
                for weights in itertools.product(range(6), repeat=3) if any(weights)
            ]
            within = any(within_holds(points, spot, paper) for paper in papers)
            without = any(without_holds(points, spot, wall) for wall in walls)
            word = self.told(points, spot)
            self.assertFalse(within and without)
            self.assertFalse(within and word == "without")
            self.assertFalse(without and word == "within")

    def test_bottoms_count(self):
        points = [(1, 59), (1, 60)]
        for spot, word in [
            ((1, 59), "within"), ((1, 60), "within"), ((2, 119), "within"), ((1, 58), "without"), ((1, 61), "without"),
        ]:
            self.assertEqual(self.told(points, spot), word)
        points = [(1, 1, k) for k in range(2, 42)]
        self.assertEqual(self.told(points, (1, 1, 100)), "without")
        self.assertEqual(self.told(points, (3, 3, 100)), "within")
        self.assertEqual(self.told(points, (3, 4, 100)), "without")

    def test_more_than_forty(self):
        points = some_points(dice(95), 3, 45)
        self.assertEqual(self.told(points, mixed(points, tuple((k, 1) for k in range(45)))), "within")

    def test_what_is_done_behind_the_call(self):
        points = [(0, 1), (4, 1)]
        word, shares = place(points, (3, 1))
        self.assertEqual(word, "within")
        points[1] = (2, 1)
        self.assertIs(within_holds([(0, 1), (4, 1)], (3, 1), shares), True)
        self.assertEqual(place(points, (3, 1))[0], "without")
        points.clear()
        self.assertEqual(place(points, (3, 1))[0], "without")

    def test_by_names_in_any_order(self):
        self.assertEqual(place(points=LINE, spot=(2, 1))[0], "within")
        self.assertEqual(place(spot=(5, 1), points=LINE)[0], "without")


if __name__ == "__main__":
    unittest.main()
