"""Promises 13, 14 and the count of 17: papers of heaps, two heaps by signs; and of 2 and 3 what they touch."""

import itertools
import unittest

from heapsmeet.errors import HeapsError, TooFew
from heapsmeet.heapspaper import enough, heaps_hold
from heapsmeet.sharing import sharing
from heapsmeet.signs import by_signs, two_heaps
from heapsmeet.ties import is_plain, tie
from tests.support import (
    HUGE, ask, changed, dice, heaps_ok, is_row, lowest, mix_places, odd_things, places_of, some_points, tie_ok, told, twisted,
)

LINE = [(0, 1), (4, 1), (2, 1), (6, 1)]
SQUARE = [(0, 0, 1), (4, 0, 1), (4, 4, 1), (0, 4, 1)]
STAR = SQUARE + [(2, 2, 1), (2, 0, 1), (2, 4, 1)]
CUBE = [(a, b, c, 1) for a in (0, 2) for b in (0, 2) for c in (0, 2)]

# Points, how many heaps, and a paper.
HEAPS = [
    ([(5, 3)], 1, (((0,),), (5, 3), (((0, 1),),))),
    (LINE, 1, (((0, 1, 2, 3),), (3, 1), (((0, 1), (3, 1)),))),
    (LINE, 1, (((0, 1, 2, 3),), (3, 1), (((0, 2), (1, 2), (2, 2), (3, 2)),))),
    (LINE, 2, (((0, 1), (2, 3)), (3, 1), (((0, 1), (1, 3)), ((2, 3), (3, 1))))),
    (LINE, 2, (((2, 3), (0, 1)), (3, 1), (((2, 3), (3, 1)), ((0, 1), (1, 3))))),
    (LINE, 2, (((0, 3), (1, 2)), (4, 1), (((0, 1), (3, 2)), ((1, 1),)))),
    (LINE, 2, (((0, 1, 3), (2,)), (2, 1), (((0, 1), (1, 1)), ((2, HUGE),)))),
    ([(3, 1)] * 3, 3, (((1,), (0,), (2,)), (3, 1), (((1, 1),), ((0, 2),), ((2, 3),)))),
    (SQUARE, 2, (((0, 2), (1, 3)), (2, 2, 1), (((0, 1), (2, 1)), ((1, 1), (3, 1))))),
    (SQUARE, 2, (((1, 3), (0, 2)), (2, 2, 1), (((1, 1), (3, 1)), ((0, 1), (2, 1))))),
    (STAR, 4, (
        ((4,), (0, 2), (5, 6), (1, 3)), (2, 2, 1),
        (((4, 1),), ((0, 1), (2, 1)), ((5, 1), (6, 1)), ((1, 1), (3, 1))),
    )),
    (CUBE, 4, (
        tuple((k, 7 - k) for k in range(4)), (1, 1, 1, 1), tuple(((k, k + 1), (7 - k, k + 1)) for k in range(4)),
    )),
    (CUBE, 2, (
        ((0, 3, 5, 6), (1, 2, 4, 7)), (1, 1, 1, 1),
        (((0, 1), (3, 1), (5, 1), (6, 1)), ((1, 2), (2, 2), (4, 2), (7, 2))),
    )),
    ([(1, 2), (1, 3), (5, 12)], 2, (((0, 1), (2,)), (5, 12), (((0, 1), (1, 1)), ((2, 1),)))),
]


class HeapsHold(unittest.TestCase):
    def no(self, points, many, thing):
        self.assertIs(ask(heaps_hold, points, many, thing), False, (points, many, thing))

    def test_papers_that_hold(self):
        for points, many, paper in HEAPS:
            self.assertTrue(heaps_ok(points, many, paper), (points, paper))
            self.assertIs(ask(heaps_hold, points, many, paper), True, (points, paper))

    def test_another_number_of_heaps(self):
        for points, many, paper in HEAPS:
            for other in (1, 2, 3, 4, 5, 40, HUGE):
                self.assertIs(ask(heaps_hold, points, other, paper), other == many)

    def test_each_point_stands_in_just_one(self):
        points = [(0, 1)] * 4
        rows = (((0, 1),), ((2, 1),))
        self.assertIs(heaps_hold(points, 2, (((0, 1), (2, 3)), (0, 1), rows)), True)
        for parting in [
            ((0,), (2, 3)), ((0, 1), (2,)), ((0,), (2,)), ((0, 1, 2), (2, 3)), ((0, 1), (1, 2, 3)), ((0, 1), (0, 2, 3)),
            ((0, 1, 2, 3), (2,)), ((0, 1, 2, 3), (0, 1, 2, 3)), ((0, 1, 4), (2, 3)), ((0, 1), (2, 3, 4)), ((-1, 0, 1), (2, 3)),
            ((0, 1), (-1, 2)), ((0, 4), (2, 3)), ((0, 1), (2, HUGE)),
        ]:
            self.no(points, 2, (parting, (0, 1), rows))

    def test_heaps_rise_and_are_not_empty(self):
        points = [(0, 1)] * 4
        rows = (((0, 1),), ((2, 1),))
        for parting in [
            ((1, 0), (2, 3)), ((0, 1), (3, 2)), ((0, 0, 1), (2, 3)), ((0, 1, 1), (2, 3)), ((0, 1), (2, 2, 3)), ((), (0, 1, 2, 3)),
            ((0, 1, 2, 3), ()), [(0, 1), (2, 3)], ([0, 1], (2, 3)), ((0, 1), [2, 3]), ((0, True), (2, 3)), ((False, 1), (2, 3)),
            (0, 1, 2, 3), (0, (2, 3)), ((0, 1), None), ((0, "1"), (2, 3)), ((0, (1,)), (2, 3)), (((0, 1), (2, 3)),), ((0, 1, 2, 3),),
            ((0, 1), (2,), (3,)), ((0, 1), (2, 3), ()), {0: (0, 1), 1: (2, 3)}, "01", (), None, True, 2,
        ]:
            self.no(points, 2, (parting, (0, 1), rows))
        self.no(points, 3, (((0, 1), (2, 3), ()), (0, 1), (((0, 1),), ((2, 1),), ((3, 1),))))

    def test_shares_of_the_heaps_own_points_alone(self):
        points = [(0, 1)] * 4
        parting = ((0, 1), (2, 3))
        for first in range(-1, 5):
            for second in range(-1, 5):
                paper = (parting, (0, 1), (((first, 1),), ((second, 1),)))
                self.assertIs(ask(heaps_hold, points, 2, paper), first in (0, 1) and second in (2, 3))
        self.no(points, 2, (parting, (0, 1), (((2, 1),), ((0, 1),))))
        self.no(points, 2, (((2, 3), (0, 1)), (0, 1), (((0, 1),), ((2, 1),))))

    def test_the_spot_and_the_shares(self):
        for points, many, (parting, spot, rows) in HEAPS:
            self.no(points, many, (parting, tuple(2 * n for n in spot), rows))
            self.no(points, many, (parting, lowest([n + spot[-1] for n in spot[:-1]], spot[-1]), rows))
            self.no(points, many, (parting, lowest([n * HUGE - 1 for n in spot[:-1]], spot[-1] * HUGE), rows))
            self.no(points, many, (parting, spot, rows[:-1]))
            self.no(points, many, (parting, spot, (*rows, rows[-1])))
            self.no(points, many, (parting, spot, list(rows)))
            self.no(points, many, (parting, list(spot), rows))
            self.no(points, many, (parting, rows, spot))
            self.no(points, many, (spot, parting, rows))
            self.no(points, many, (parting, (spot, rows)))
            self.no(points, many, (parting, spot))
            self.no(points, many, (parting, spot, rows, ()))
            self.no(points, many, [parting, spot, rows])
            if many > 1:
                self.no(points, many, (parting, spot, rows[::-1]))
                self.no(points, many, (parting[::-1], spot, rows))
                self.assertIs(ask(heaps_hold, points, many, (parting[::-1], spot, rows[::-1])), True)

    def test_a_share_changed(self):
        points = [(0, 1), (4, 1), (2, 1), (6, 1)]
        parting = ((0, 1), (2, 3))
        for first, second, right in [
            (((0, 1), (1, 3)), ((2, 3), (3, 1)), True), (((0, 2), (1, 6)), ((2, 3), (3, 1)), True),
            (((0, 1), (1, 4)), ((2, 3), (3, 1)), False), (((0, 1), (1, 3)), ((2, 3), (3, 2)), False),
            (((0, 1), (1, 2)), ((2, 3), (3, 1)), False), (((0, 1), (1, 3)), ((2, 3),), False),
            (((0, -1), (1, -3)), ((2, 3), (3, 1)), False), (((0, 1), (1, 3), (1, 0)), ((2, 3), (3, 1)), False),
            (((1, 3), (0, 1)), ((2, 3), (3, 1)), False), (((0, True), (1, 3)), ((2, 3), (3, 1)), False),
        ]:
            self.assertIs(ask(heaps_hold, points, 2, (parting, (3, 1), (first, second))), right)

    def test_no_points(self):
        for many in (1, 2, 40):
            for thing in [((), (0, 1), ()), (((),), (0, 1), ((),)), (((0,),), (0, 1), (((0, 1),),)), *odd_things()]:
                self.no([], many, thing)

    def test_a_part_of_another_kind(self):
        for points, many, paper in HEAPS:
            for thing in twisted(paper):
                self.no(points, many, thing)

    def test_a_little_changed(self):
        for points, many, paper in HEAPS:
            for thing in changed(paper):
                self.assertIs(ask(heaps_hold, points, many, thing), heaps_ok(points, many, thing), thing)

    def test_whatever(self):
        for points, many, (parting, spot, rows) in (HEAPS[3], HEAPS[7], HEAPS[8], HEAPS[11]):
            for thing in odd_things():
                self.no(points, many, thing)
                self.no(points, many, (thing, spot, rows))
                self.no(points, many, (parting, thing, rows))
                self.no(points, many, (parting, spot, thing))
                self.no(points, many, (thing, thing, thing))
                self.no(points, many, ((*parting[:-1], thing), spot, rows))
                self.no(points, many, (parting, spot, (*rows[:-1], thing)))

    def test_by_names_in_any_order(self):
        points, many, paper = HEAPS[3]
        self.assertIs(heaps_hold(points=points, many=many, thing=paper), True)
        self.assertIs(heaps_hold(thing=paper, many=3, points=points), False)


class Enough(unittest.TestCase):
    def test_counts(self):
        for directions, many, count in [
            (1, 1, 1), (2, 1, 1), (3, 1, 1), (1, 2, 3), (2, 2, 4), (3, 2, 5), (1, 3, 5), (2, 3, 7), (3, 3, 9), (1, 7, 13), (2, 5, 13),
            (3, 4, 13), (2, 40, 118), (3, HUGE, 4 * HUGE - 3),
        ]:
            self.assertEqual(ask(enough, directions, many), count)
            self.assertIs(type(enough(directions, many)), int)
        self.assertEqual(enough(many=3, directions=2), 7)


class BySigns(unittest.TestCase):
    def told(self, points, numbers):
        """The paper, once held against the words of 14, which leave but one."""
        self.assertTrue(tie_ok(points, numbers), (points, numbers))
        paper = ask(by_signs, points, numbers)
        above = tuple((k, n) for k, n in enumerate(numbers) if n > 0)
        below = tuple((k, -n) for k, n in enumerate(numbers) if n < 0)
        first = tuple(k for k, n in above)
        second = tuple(k for k in range(len(points)) if k not in first)
        spot = told(mix_places([places_of(point) for point in points], above))
        self.assertEqual(paper, ((first, second), spot, (above, below)))
        self.assertTrue(heaps_ok(points, 2, paper))
        self.assertIs(heaps_hold(points, 2, paper), True)
        return paper

    def test_ties_by_hand(self):
        self.assertEqual(
            self.told([(0, 1), (1, 1), (3, 1)], (2, -3, 1)), (((0, 2), (1,)), (1, 1), (((0, 2), (2, 1)), ((1, 3),))),
        )
        self.assertEqual(
            self.told(SQUARE, (1, -1, 1, -1)),
            (((0, 2), (1, 3)), (2, 2, 1), (((0, 1), (2, 1)), ((1, 1), (3, 1)))),
        )
        self.assertEqual(
            self.told(CUBE, (1, -1, -1, 1, -1, 1, 1, -1))[0], ((0, 3, 5, 6), (1, 2, 4, 7)),
        )

    def test_ties_the_other_way_round_and_many_times(self):
        for points, numbers in [([(0, 1), (1, 1), (3, 1)], (2, -3, 1)), (SQUARE, (1, -1, 1, -1))]:
            for times in (-1, 2, -7, HUGE, -HUGE):
                self.told(points, tuple(times * n for n in numbers))

    def test_ties_with_noughts(self):
        self.assertEqual(self.told([(0, 1), (9, 1), (0, 1), (5, 2)], (1, 0, -1, 0))[0], ((0,), (1, 2, 3)))
        self.assertEqual(self.told([(9, 1), (0, 1), (0, 1)], (0, -4, 4))[0], ((2,), (0, 1)))
        self.assertEqual(self.told(STAR, (0, 1, 0, 1, -2, 0, 0))[0], ((1, 3), (0, 2, 4, 5, 6)))
        self.assertEqual(self.told(STAR, (0, 0, 0, 0, -2, 1, 1))[2], (((5, 1), (6, 1)), ((4, 2),)))

    def test_points_alike_and_bottoms(self):
        for directions in (1, 2, 3):
            point = some_points(dice(27), directions, 1, 10000, 60)[0]
            self.told([point] * 3, (1, 1, -2))
            self.told([point] * 40, (39,) + (-1,) * 39)
        self.told([(1, 2), (1, 3), (5, 12)], (1, 1, -2))
        self.told([(1, 60), (1, 59), (1, 58)], tie([(1, 60), (1, 59), (1, 58)]))

    def test_ties_by_chance(self):
        throw = dice(28)
        for directions in (1, 2, 3):
            for many in (directions + 2, directions + 3, 12, 40):
                for reach, bottom in ((1, 1), (3, 2), (10000, 60)):
                    points = some_points(throw, directions, many, reach, bottom)
                    self.told(points, tie(points))
                    # Two ties, put together.
                    back = tie(points[::-1])[::-1]
                    both = tuple(a + 3 * b for a, b in zip(tie(points), back))
                    self.told(points, both if any(both) else back)

    def test_by_names_in_any_order(self):
        self.assertEqual(by_signs(numbers=(1, -1), points=[(3, 1), (3, 1)]), (((0,), (1,)), (3, 1), (((0, 1),), ((1, 1),))))


class TwoHeaps(unittest.TestCase):
    def told(self, points):
        """The paper, once held against the words of 14: by some tie of the first d + 2."""
        paper = ask(two_heaps, points)
        self.assertTrue(heaps_ok(points, 2, paper), (points, paper))
        self.assertIs(heaps_hold(points, 2, paper), True)
        (first, second), spot, (above, below) = paper
        tied = len(points[0]) + 1
        numbers = {**dict(above), **{k: -s for k, s in below}}
        row = tuple(numbers.get(k, 0) for k in range(len(points)))
        self.assertTrue(tie_ok(points[:tied], row[:tied]), paper)
        self.assertFalse(any(row[tied:]))
        self.assertEqual(first, tuple(k for k, n in enumerate(row) if n > 0))
        return paper

    def refused(self, points):
        with self.assertRaises(TooFew) as caught:
            two_heaps(points)
        self.assertIs(type(caught.exception), TooFew)
        self.assertIsInstance(caught.exception, HeapsError)
        self.assertIsInstance(caught.exception, ValueError)
        kept = list(points)
        with self.assertRaises(TooFew):
            two_heaps(points=points)
        self.assertEqual(points, kept)

    def test_too_few(self):
        self.refused([])
        for directions in (1, 2, 3):
            points = some_points(dice(29), directions, directions + 2)
            for many in range(1, directions + 2):
                self.refused(points[:many])
                # Points alike have a tie, and are too few all the same.
                self.refused(points[:1] * many)
            self.told(points)
            self.told(points[:1] * (directions + 2))

    def test_just_enough_and_more(self):
        throw = dice(30)
        for directions in (1, 2, 3):
            for many in (directions + 2, directions + 3, 9, 20, 40):
                for reach, bottom in ((1, 1), (2, 3), (9, 9), (10000, 60)):
                    self.told(some_points(throw, directions, many, reach, bottom))

    def test_more_than_forty(self):
        self.told(some_points(dice(31), 2, 44))

    def test_in_a_line(self):
        (first, second), spot, rows = self.told([(0, 1), (4, 1), (1, 1)])
        self.assertEqual({first, second}, {(0, 1), (2,)})
        self.assertEqual(spot, (1, 1))
        (first, second), spot, rows = self.told([(5, 2), (0, 1), (9, 1), (5, 1), (2, 1)])
        self.assertIn({first, second}, [{(1, 2, 3, 4), (0,)}, {(1, 2), (0, 3, 4)}])
        self.assertEqual(spot, (5, 2))

    def test_points_on_a_line_in_a_plane_and_alike(self):
        self.told([(k, 2 * k, 1) for k in (3, 0, 5, 1, 1)])
        self.told([(k, 2 * k, -k, 1) for k in (3, 0, 5, 1, 1)])
        self.told([(0, 0, 5, 1), (4, 0, 5, 1), (4, 4, 5, 1), (0, 4, 5, 1), (1, 1, 5, 1)])
        self.told([(0, 0, 1), (0, 0, 1), (1, 0, 1), (0, 1, 1)])
        self.told([(0, 0, 1), (1, 0, 1), (0, 1, 1), (0, 0, 1)])
        for directions in (1, 2, 3):
            self.told(some_points(dice(32), directions, 1, 10000, 60) * 40)

    def test_plain_points_share_a_spot_by_one_parting_alone(self):
        throw = dice(33)
        for directions in (1, 2, 3):
            seen = 0
            while seen < 8:
                points = some_points(throw, directions, directions + 2, 5, 2)
                if not is_plain(points):
                    continue
                seen += 1
                found = []
                numbers = range(len(points))
                for size in range(1, len(points)):
                    for first in itertools.combinations(numbers, size):
                        second = tuple(k for k in numbers if k not in first)
                        if sharing(points, [first, second])[0] == "shared":
                            found.append((first, second))
                self.assertEqual(len(found), 2)
                self.assertIn(self.told(points)[0], found)
                self.assertEqual(found[0], found[1][::-1])

    def test_papers_are_rows_throughout(self):
        parting, spot, rows = self.told(STAR)
        for part in (parting, spot, rows, *parting, *rows, *rows[0], *rows[1]):
            self.assertTrue(is_row(part))

    def test_what_is_told_does_not_hang_on_what_is_handed_in(self):
        points = list(SQUARE)
        paper = two_heaps(points)
        points[0] = (9, 9, 1)
        self.assertTrue(heaps_ok(SQUARE, 2, paper))
        self.told(points)


if __name__ == "__main__":
    unittest.main()
