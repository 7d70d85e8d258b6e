"""Promise 4: spots, points and the spot at numbers over a bottom; and of 2 what it touches."""

import itertools
import unittest

from heapsmeet.spots import is_points, is_spot, spot_at
from tests.support import (
    HUGE, alike, ask, changed, dice, lowest, nested, odd_things, some_points, spot_ok, twisted,
)

SPOTS = [
    (0, 1), (5, 1), (-5, 1), (1, 2), (-7, 3), (10001, 1), (1, 61),
    (0, 0, 1), (2, 4, 3), (2, 4, 1), (6, 10, 15), (-6, -10, 15), (0, 1, 2),
    (0, 0, 0, 1), (1, 2, 3, 4), (-1, 0, 0, 60), (30, 42, 70, 105), (0, 0, 1, 7),
    (HUGE, 1), (-HUGE, 0, 1), (1, HUGE), (HUGE, HUGE + 1, HUGE, HUGE + 1),
]
NO_SPOTS = [
    (0, 2), (2, 2), (2, 4), (-3, 6), (4, 2), (0, 0, 2), (2, 4, 6), (6, 10, 14), (0, 0, 0, 5),
    (1, 0), (0, 0), (1, 1, 0), (0, 0, 0, 0), (1, -1), (1, 2, -3), (0, 0, 0, -1), (1, 1, 1, -HUGE),
    (1,), (), (0, 0, 0, 0, 1), (1, 2, 3, 4, 5), (2 * HUGE, 2), (3 * HUGE, 6, 9, 3), (HUGE, HUGE),
]


class IsSpot(unittest.TestCase):
    def test_spots(self):
        for thing in SPOTS:
            self.assertIs(ask(is_spot, thing), True, thing)

    def test_no_spots(self):
        for thing in NO_SPOTS:
            self.assertIs(ask(is_spot, thing), False, thing)

    def test_all_small_rows(self):
        for many, reach in ((1, 3), (2, 9), (3, 6), (4, 3), (5, 1)):
            for thing in itertools.product(range(-reach, reach + 1), repeat=many):
                self.assertIs(is_spot(thing), spot_ok(thing), thing)

    def test_truths_are_no_numbers(self):
        for thing in [
            (True, 1), (1, True), (False, 1), (0, True), (1, 2, True), (True, True), (1, False, 1),
            (1, 1, False, 1), (True, 0, 0, 1), (1, 2, 3, True),
        ]:
            self.assertIs(ask(is_spot, thing), False, thing)

    def test_a_part_of_another_kind(self):
        for spot in [(5, 1), (1, 2), (2, 4, 3), (0, 0, 0, 1), (1, 2, 3, 4)]:
            for thing in twisted(spot):
                self.assertIs(ask(is_spot, thing), False, thing)

    def test_rows_too_long_and_too_short(self):
        for spot in [(5, 1), (2, 4, 3), (1, 2, 3, 4)]:
            for thing in changed(spot):
                if isinstance(thing, tuple) and all(type(part) is int for part in thing):
                    if not thing or abs(thing[-1]) < 100:
                        self.assertIs(is_spot(thing), spot_ok(thing), thing)

    def test_whatever(self):
        for thing in odd_things() + [[5, 1], [0, 0, 1], {0: 5, 1: 1}, "5 1", ((5, 1),), [(5, 1)]]:
            self.assertIs(ask(is_spot, thing), False)

    def test_by_name(self):
        self.assertIs(is_spot(thing=(1, 2)), True)
        self.assertIs(is_spot(thing=(2, 2)), False)


POINTS = [
    [], [(0, 1)], [(5, 1), (5, 1)], [(10000, 1)], [(-10000, 1)], [(1, 60)], [(-9997, 60), (10000, 59)],
    [(0, 0, 1), (1, 2, 3)], [(10000, -10000, 1), (-9999, 9999, 10)], [(1, 2, 60)],
    [(0, 0, 0, 1), (0, 0, 0, 1), (1, 2, 3, 4)], [(10000, 10000, -10000, 1)], [(-1, -1, -1, 60)],
]
NO_POINTS = [
    [(10001, 1)], [(-10001, 1)], [(1, 61)], [(0, 1), (10001, 1)], [(1, 61), (0, 1)],
    [(10001, 0, 1)], [(0, 10001, 1)], [(0, -10001, 1)], [(1, 0, 61)], [(0, 0, 1), (1, 1, 61)],
    [(10001, 0, 0, 1)], [(0, 10001, 0, 1)], [(0, 0, 10001, 1)], [(0, 0, -10001, 1)], [(1, 0, 0, 61)],
    [(HUGE, 1)], [(-HUGE, 1)], [(1, HUGE)], [(0, 0, HUGE, 1)],
    [(0, 2)], [(1, 0)], [(1, -1)], [(0, 1), (2, 2)], [(0, 0, 0, 3)],
    [(0, 1), (0, 0, 1)], [(0, 0, 1), (0, 0, 0, 1)], [(0, 1), (0, 1), (0, 0, 0, 1)], [(0, 0, 1), (0, 1)],
    [(1,)], [()], [(0, 0, 0, 0, 1)], [(0, 0, 0, 0, 1), (0, 0, 0, 0, 1)],
]


class IsPoints(unittest.TestCase):
    def test_points(self):
        for thing in POINTS:
            self.assertIs(ask(is_points, thing), True, thing)

    def test_no_points(self):
        for thing in NO_POINTS:
            self.assertIs(ask(is_points, thing), False, thing)

    def test_forty_and_one_more(self):
        throw = dice(4)
        for directions in (1, 2, 3):
            points = some_points(throw, directions, 40, 10000, 60)
            self.assertIs(ask(is_points, points), True)
            self.assertIs(ask(is_points, points + points[:1]), False)
            self.assertIs(ask(is_points, points[:39]), True)
            same = [points[0]] * 40
            self.assertIs(ask(is_points, same), True)
            self.assertIs(ask(is_points, same + [points[0]]), False)
            self.assertIs(ask(is_points, points * 3), False)

    def test_one_wrong_among_forty(self):
        for directions in (1, 2, 3):
            good = (1,) * directions + (2,)
            wrongs = [
                (True,) * directions + (2,), (1,) * directions + (True,), list(good), None, "12", 7,
                (1,) * (directions - 1) + (2,), (1,) * (directions + 1) + (2,),
                (2,) * directions + (2,), (1,) * directions + (61,), (10001,) * directions + (2,),
                (1,) * directions + (0,), (1,) * directions + (-2,), (), [], {}, (good,),
            ]
            for at in (0, 1, 20, 39):
                for wrong in wrongs:
                    points = [good] * 40
                    points[at] = wrong
                    self.assertIs(ask(is_points, points), False, (at, wrong))

    def test_a_row_for_the_list(self):
        for points in POINTS:
            self.assertIs(ask(is_points, tuple(points)), False)
            self.assertIs(ask(is_points, {"points": points}), False)
            self.assertIs(ask(is_points, dict(enumerate(points))), False)
            self.assertIs(ask(is_points, [points]), False)
            self.assertIs(ask(is_points, (points,)), False)

    def test_a_part_of_another_kind(self):
        for points in ([(5, 1), (1, 2)], [(2, 4, 3), (0, 0, 1)], [(1, 2, 3, 4)]):
            for at, point in enumerate(points):
                for wrong in twisted(point):
                    thing = [*points[:at], wrong, *points[at + 1:]]
                    self.assertIs(ask(is_points, thing), False, thing)

    def test_whatever(self):
        for thing in odd_things():
            self.assertIs(ask(is_points, thing), False)
            self.assertIs(ask(is_points, [thing]), False)
            self.assertIs(ask(is_points, [(0, 1), thing]), False)
            self.assertIs(ask(is_points, [thing, (0, 0, 1)]), False)
        self.assertIs(ask(is_points, nested(list, 30)), False)

    def test_what_is_done_behind_the_call(self):
        points = [(0, 1)] * 40
        self.assertIs(is_points(points), True)
        points.append((0, 1))
        self.assertIs(is_points(points), False)
        points[:] = [(0, 1), (1, 1, 1)]
        self.assertIs(is_points(points), False)
        points.pop()
        self.assertIs(is_points(points), True)

    def test_by_name(self):
        self.assertIs(is_points(thing=[(1, 2)]), True)
        self.assertIs(is_points(thing=((1, 2),)), False)


class SpotAt(unittest.TestCase):
    def test_told_spots(self):
        for numbers, bottom, spot in [
            ((3,), 1, (3, 1)), ((4,), 2, (2, 1)), ((4,), 6, (2, 3)), ((-4,), 6, (-2, 3)),
            ((4,), -6, (-2, 3)), ((-4,), -6, (2, 3)), ((0,), 5, (0, 1)), ((0,), -5, (0, 1)),
            ((1, 2), 3, (1, 2, 3)), ((2, 4), 6, (1, 2, 3)), ((2, 4), -6, (-1, -2, 3)),
            ((6, 10), 15, (6, 10, 15)), ((6, 10), -14, (-3, -5, 7)), ((0, 0), 9, (0, 0, 1)),
            ((0, 3), 9, (0, 1, 3)), ((0, 0, 0), -1, (0, 0, 0, 1)), ((0, 0, 0), 60, (0, 0, 0, 1)),
            ((12, 18, 30), 6, (2, 3, 5, 1)), ((30, 42, 70), 105, (30, 42, 70, 105)),
            ((30, 42, 70), -210, (-15, -21, -35, 105)), ((1, -1, 0), -1, (-1, 1, 0, 1)),
            ((7,), 1, (7, 1)), ((7,), -1, (-7, 1)), ((1,), 61, (1, 61)), ((20000,), 2, (10000, 1)),
        ]:
            self.assertTrue(alike(ask(spot_at, numbers, bottom), spot), (numbers, bottom))

    def test_numbers_of_300_figures(self):
        for sign in (1, -1):
            self.assertEqual(ask(spot_at, (HUGE,), sign * HUGE), (sign, 1))
            self.assertEqual(ask(spot_at, (2 * HUGE, 3 * HUGE), sign * HUGE), (sign * 2, sign * 3, 1))
            self.assertEqual(ask(spot_at, (HUGE, 0, -HUGE), sign * 6), lowest((HUGE, 0, -HUGE), sign * 6))
            self.assertEqual(ask(spot_at, (0, 0, 0), sign * HUGE), (0, 0, 0, 1))
            self.assertEqual(ask(spot_at, (1,), sign * HUGE), (sign, HUGE))

    def test_all_small_ones_are_spots_in_lowest_terms(self):
        bottoms = [bottom for bottom in range(-12, 13) if bottom != 0]
        for directions, reach in ((1, 12), (2, 6), (3, 2)):
            for numbers in itertools.product(range(-reach, reach + 1), repeat=directions):
                for bottom in bottoms:
                    spot = spot_at(numbers, bottom)
                    self.assertTrue(alike(spot, lowest(numbers, bottom)))
                    self.assertTrue(spot_ok(spot))
                    self.assertIs(is_spot(spot), True)
                    for number, own in zip(numbers, spot):
                        self.assertEqual(number * spot[-1], own * bottom)

    def test_a_spot_is_told_in_one_way(self):
        throw = dice(44)
        for directions in (1, 2, 3):
            for turn in range(60):
                numbers = tuple(throw.randint(-10 ** 6, 10 ** 6) for k in range(directions))
                bottom = throw.randint(1, 1000)
                spot = spot_at(numbers, bottom)
                for factor in (-1, 2, -7, 60, HUGE, -HUGE):
                    again = spot_at(tuple(factor * n for n in numbers), factor * bottom)
                    self.assertEqual(again, spot)
                self.assertEqual(spot_at(spot[:-1], spot[-1]), spot)

    def test_by_names_in_any_order(self):
        self.assertEqual(spot_at(numbers=(4, 2), bottom=-6), (-2, -1, 3))
        self.assertEqual(spot_at(bottom=-6, numbers=(4, 2)), (-2, -1, 3))
        self.assertEqual(spot_at((4, 2), bottom=-6), (-2, -1, 3))


if __name__ == "__main__":
    unittest.main()
