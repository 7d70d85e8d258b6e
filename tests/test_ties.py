"""Promise 6: ties and plain points; and of 2 and 3 what they touch."""

import itertools
import unittest
from math import gcd

from heapsmeet.ties import is_plain, tie, tie_holds
from tests.support import (
    HUGE, alike, ask, changed, dice, has_tie, odd_things, some_points, tie_ok, twisted,
)

# Points whose ties are all one row times a number, and that row as tie must tell it.
ONLY_TIES = [
    ([(0, 1), (1, 1), (1, 1)], (0, 1, -1)),
    ([(5, 1), (5, 1)], (1, -1)),
    ([(1, 2), (1, 2)], (1, -1)),
    ([(0, 1), (1, 1), (3, 1)], (2, -3, 1)),
    ([(3, 1), (1, 1), (0, 1)], (1, -3, 2)),
    ([(0, 1), (1, 2), (1, 3)], (1, 2, -3)),
    ([(1, 3), (0, 1), (1, 2)], (3, -1, -2)),
    ([(1, 60), (1, 59), (1, 1)], (3480, -3481, 1)),
    ([(0, 0, 1), (4, 4, 1), (4, 4, 1)], (0, 1, -1)),
    ([(0, 0, 1), (1, 1, 1), (2, 2, 1)], (1, -2, 1)),
    ([(9, 5, 1), (0, 0, 1), (1, 1, 1), (2, 2, 1)], (0, 1, -2, 1)),
    ([(0, 0, 1), (1, 1, 1), (9, 5, 1), (2, 2, 1)], (1, -2, 0, 1)),
    ([(0, 0, 1), (1, 0, 1), (0, 1, 1), (1, 1, 1)], (1, -1, -1, 1)),
    ([(0, 0, 1), (3, 0, 1), (0, 3, 1), (1, 1, 1)], (1, 1, 1, -3)),
    ([(1, 1, 3), (0, 0, 1), (1, 0, 1), (0, 1, 1)], (3, -1, -1, -1)),
    ([(1, 1, 2), (0, 0, 1), (1, 0, 1), (0, 1, 1)], (2, 0, -1, -1)),
    ([(0, 0, 0, 1), (7, 7, 7, 2), (7, 7, 7, 1)], (1, -2, 1)),
    ([(0, 0, 0, 1), (1, 0, 0, 1), (0, 1, 0, 1), (1, 1, 0, 1)], (1, -1, -1, 1)),
    ([(0, 0, 0, 1), (1, 0, 0, 1), (0, 1, 0, 1), (0, 0, 1, 1), (1, 1, 1, 4)], (1, 1, 1, 1, -4)),
    ([(5, 1, 7, 1), (0, 0, 0, 1), (1, 0, 0, 1), (0, 1, 0, 1), (1, 1, 0, 1)], (0, 1, -1, -1, 1)),
    ([(0, 0, 0, 1), (6, 0, 0, 1), (0, 4, 0, 1), (0, 0, 4, 1), (1, 1, 1, 1)], (4, 2, 3, 3, -12)),
]
FREE = [
    [], [(0, 1)], [(7, 3)], [(0, 1), (1, 1)], [(1, 2), (1, 3)], [(0, 0, 1)], [(0, 0, 1), (0, 1, 1)],
    [(0, 0, 1), (1, 0, 1), (0, 1, 1)], [(1, 1, 2), (1, 1, 3), (1, 2, 3)], [(0, 0, 0, 1)],
    [(0, 0, 0, 1), (0, 0, 1, 1)], [(0, 0, 0, 1), (1, 0, 0, 1), (2, 0, 1, 1)],
    [(0, 0, 0, 1), (1, 0, 0, 1), (0, 1, 0, 1), (1, 1, 1, 60)],
    [(0, 0, 0, 1), (10000, 0, 0, 1), (9999, 1, 0, 1), (1, 1, 1, 60)],
]


class TieHolds(unittest.TestCase):
    def test_ties(self):
        for points, numbers in ONLY_TIES:
            self.assertTrue(tie_ok(points, numbers), (points, numbers))
            for factor in (1, -1, 2, -6, HUGE):
                scaled = tuple(factor * number for number in numbers)
                self.assertIs(ask(tie_holds, points, scaled), True, (points, scaled))

    def test_ties_that_are_many(self):
        points = [(0, 1), (1, 1), (2, 1), (3, 1)]
        for numbers in itertools.product(range(-3, 4), repeat=4):
            self.assertIs(tie_holds(points, numbers), tie_ok(points, numbers), numbers)
        same = [(1, 2, 3)] * 3
        for numbers in itertools.product(range(-2, 3), repeat=3):
            self.assertIs(tie_holds(same, numbers), any(numbers) and sum(numbers) == 0, numbers)

    def test_noughts_alone(self):
        for points, numbers in ONLY_TIES:
            self.assertIs(ask(tie_holds, points, (0,) * len(points)), False)
        for points in FREE:
            self.assertIs(ask(tie_holds, points, (0,) * len(points)), False)

    def test_not_together_nought(self):
        self.assertIs(ask(tie_holds, [(0, 1), (1, 1)], (1, 0)), False)
        self.assertIs(ask(tie_holds, [(0, 0, 1), (0, 0, 1)], (1, 1)), False)
        self.assertIs(ask(tie_holds, [(1, 1), (2, 1)], (2, -1)), False)
        self.assertIs(ask(tie_holds, [(1, 1, 1, 1), (2, 2, 2, 1)], (-2, 1)), False)
        self.assertIs(ask(tie_holds, [(0, 1)], (1,)), False)

    def test_one_direction_not_nought(self):
        for at in range(3):
            ends = [[0, 0, 0, 1], [0, 0, 0, 1]]
            ends[1][at] = 1
            points = [tuple(end) for end in ends]
            self.assertIs(ask(tie_holds, points, (1, -1)), False, at)
        self.assertIs(ask(tie_holds, [(0, 0, 1), (0, 1, 1)], (1, -1)), False)
        self.assertIs(ask(tie_holds, [(0, 0, 1), (1, 0, 1)], (1, -1)), False)
        self.assertIs(ask(tie_holds, [(0, 1), (1, 1)], (1, -1)), False)

    def test_places_count_and_not_the_numbers_above_the_bottom(self):
        self.assertIs(ask(tie_holds, [(1, 1), (1, 2)], (1, -1)), False)
        self.assertIs(ask(tie_holds, [(0, 1), (1, 2), (2, 1)], (1, -2, 1)), False)
        self.assertIs(ask(tie_holds, [(0, 1), (1, 2), (1, 1)], (1, -2, 1)), True)

    def test_no_points(self):
        for thing in odd_things() + [(0,), (1, -1)]:
            self.assertIs(ask(tie_holds, [], thing), False)

    def test_a_part_of_another_kind(self):
        for points, numbers in ONLY_TIES:
            for thing in twisted(numbers):
                self.assertIs(ask(tie_holds, points, thing), False, thing)
        self.assertIs(ask(tie_holds, [(0, 1)] * 2, (True, -1)), False)
        self.assertIs(ask(tie_holds, [(0, 1)] * 3, (1, -1, False)), False)

    def test_a_little_changed(self):
        for points, numbers in ONLY_TIES:
            for thing in changed(numbers):
                self.assertIs(ask(tie_holds, points, thing), tie_ok(points, thing), thing)

    def test_whatever(self):
        for points, numbers in ONLY_TIES:
            for thing in odd_things():
                self.assertIs(ask(tie_holds, points, thing), False)
                self.assertIs(ask(tie_holds, points, [thing]), False)
                if type(thing) is not int:
                    self.assertIs(ask(tie_holds, points, (*numbers[:-1], thing)), False)

    def test_by_names_in_any_order(self):
        points = [(5, 1), (5, 1)]
        self.assertIs(tie_holds(points=points, thing=(1, -1)), True)
        self.assertIs(tie_holds(thing=(1, -2), points=points), False)


class Tie(unittest.TestCase):
    def told(self, points):
        """A told tie, held against the words of the document; None just where there is none."""
        numbers = ask(tie, points)
        if numbers is None:
            self.assertFalse(has_tie(points), points)
            return None
        self.assertTrue(tie_ok(points, numbers), (points, numbers))
        self.assertIs(tie_holds(points, numbers), True)
        self.assertEqual(gcd(*numbers), 1, numbers)
        self.assertGreater([number for number in numbers if number != 0][0], 0, numbers)
        return numbers

    def test_points_with_one_tie(self):
        for points, numbers in ONLY_TIES:
            self.assertTrue(alike(self.told(points), numbers), points)

    def test_points_with_one_tie_in_any_order(self):
        for points, numbers in ONLY_TIES:
            for order in itertools.permutations(range(len(points))):
                turned = [numbers[k] for k in order]
                if [number for number in turned if number != 0][0] < 0:
                    turned = [-number for number in turned]
                found = self.told([points[k] for k in order])
                self.assertTrue(alike(found, tuple(turned)), (points, order))

    def test_points_without_ties(self):
        for points in FREE:
            self.assertIs(ask(tie, points), None, points)

    def test_no_points_and_one(self):
        self.assertIs(ask(tie, []), None)
        for point in [(0, 1), (-3, 7), (0, 0, 1), (1, 2, 3), (0, 0, 0, 1), (-1, 5, 9, 60)]:
            self.assertIs(ask(tie, [point]), None)

    def test_points_of_all_counts(self):
        throw = dice(6)
        for directions in (1, 2, 3):
            for reach, bottom in ((1, 1), (2, 2), (9, 4), (10000, 60)):
                for many in list(range(0, directions + 4)) * 4 + [20, 40]:
                    points = some_points(throw, directions, many, reach, bottom)
                    found = self.told(points)
                    if many >= directions + 2:
                        self.assertIsNotNone(found)

    def test_points_on_a_line_and_in_a_plane(self):
        throw = dice(66)
        for turn in range(40):
            line = [(3 * k, -2 * k, k + 6, 6) for k in throw.sample(range(-20, 20), 3)]
            line = [tuple(n // gcd(*row) for n in row) for row in line]
            self.assertIsNotNone(self.told(line))
            self.assertIs(tie(line[:2]), None)
            plane = [(*point[:2], point[0] - point[1], point[2]) for point in some_points(throw, 2, 4)]
            self.assertIsNotNone(self.told(plane))

    def test_points_all_at_one_spot(self):
        for point in [(0, 1), (1, 2), (0, 0, 1), (-5, 3, 7), (0, 0, 0, 1), (1, 2, 3, 4)]:
            for many in (2, 3, 5, 40):
                self.assertIsNotNone(self.told([point] * many))

    def test_spots_far_beyond_points(self):
        self.told([(HUGE, 1), (HUGE + 1, 1), (1, HUGE)])
        self.told([(HUGE, 1, 2), (1, HUGE, 3), (1, 1, HUGE), (0, 0, 1)])
        self.told(some_points(dice(67), 2, 45))

    def test_what_is_done_behind_the_call(self):
        points = [(0, 1), (1, 1), (2, 1)]
        first = tie(points)
        points[2] = (3, 1)
        self.assertEqual(first, (1, -2, 1))
        self.assertEqual(tie(points), (2, -3, 1))
        del points[2]
        self.assertIs(tie(points), None)

    def test_by_name(self):
        self.assertEqual(tie(points=[(5, 1), (5, 1)]), (1, -1))


def plain_ok(points):
    """Whether points are plain, by the document's words."""
    if not points:
        return True
    size = len(points[0])
    if len(points) < size:
        return not has_tie(points)
    return not any(has_tie(chosen) for chosen in itertools.combinations(points, size))


class IsPlain(unittest.TestCase):
    def test_plain_points(self):
        for points in FREE + [
            [(0, 1), (1, 1), (2, 1), (3, 1), (4, 1), (5, 1), (6, 1)], [(1, 2), (1, 3), (2, 3)],
            [(0, 0, 1), (1, 0, 1), (0, 1, 1), (1, 1, 1)], [(k, k * k, 1) for k in range(7)],
            [(k, k * k, k * k * k, 1) for k in range(7)],
        ]:
            self.assertTrue(plain_ok(points), points)
            self.assertIs(ask(is_plain, points), True, points)

    def test_points_that_are_not_plain(self):
        for points in [
            [(0, 1), (0, 1)], [(0, 1), (1, 1), (2, 1), (1, 1)], [(1, 2), (0, 1), (1, 2)],
            [(0, 0, 1), (0, 0, 1)], [(0, 0, 1), (1, 1, 1), (2, 2, 1)], [(0, 0, 1), (1, 0, 1), (0, 0, 1)],
            [(0, 0, 1), (1, 0, 1), (0, 1, 1), (1, 1, 2)], [(0, 0, 1), (5, 1, 1), (1, 1, 3), (1, 1, 1)],
            [(0, 0, 0, 1)] * 2, [(0, 0, 0, 1), (1, 1, 1, 1), (2, 2, 2, 1)],
            [(0, 0, 0, 1), (1, 0, 0, 1), (0, 1, 0, 1), (1, 1, 0, 1)],
            [(0, 0, 0, 1), (1, 0, 0, 1), (0, 1, 0, 1), (0, 0, 1, 1), (1, 1, 1, 3)],
            [(k, k * k, k * k * k, 1) for k in range(6)] + [(0, 0, 0, 1)],
            [(k, k * k, 1) for k in range(6)] + [(5, 15, 1)],
        ]:
            self.assertFalse(plain_ok(points), points)
            self.assertIs(ask(is_plain, points), False, points)

    def test_no_points(self):
        self.assertIs(ask(is_plain, []), True)

    def test_points_of_all_counts(self):
        throw = dice(68)
        answers = {}
        for directions in (1, 2, 3):
            for reach, bottom in ((1, 1), (2, 2), (9, 4), (60, 2), (10000, 60)):
                for many in list(range(0, 8)) * 4:
                    points = some_points(throw, directions, many, reach, bottom)
                    answer = ask(is_plain, points)
                    self.assertIs(answer, plain_ok(points), points)
                    answers.setdefault((directions, answer), points)
        self.assertEqual(len(answers), 6)

    def test_the_order_changes_nothing(self):
        points = [(0, 0, 1), (1, 0, 1), (0, 1, 1), (5, 7, 1), (2, 0, 1)]
        for order in itertools.permutations(points):
            self.assertIs(is_plain(list(order)), False)
            self.assertIs(is_plain(list(order[:2])), True)

    def test_by_name(self):
        self.assertIs(is_plain(points=[(0, 1), (1, 1)]), True)


if __name__ == "__main__":
    unittest.main()
