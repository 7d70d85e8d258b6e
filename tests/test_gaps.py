"""Promise 23: near spots of two groups, and the gap; and of 2 and 3 what they touch."""

import itertools
import unittest
from fractions import Fraction
from math import gcd

from heapsmeet.errors import HeapsError, TooMany
from heapsmeet.gaps import gap_holds
from heapsmeet.groups import shared_holds
from heapsmeet.nearspots import gap, near_spots
from heapsmeet.sharing import sharing
from tests.support import (
    HUGE, ask, changed, dice, gap_of, gap_ok, is_row, is_row_of_wholes, is_whole, mix_places, odd_things, places_of,
    some_groups, some_points, some_shares, square_of, twisted,
)

LINE = [(0, 1), (4, 1), (2, 1), (7, 1), (19, 2)]
FLAT = [(0, 0, 1), (4, 0, 1), (0, 4, 1), (5, 5, 1), (9, 5, 1), (5, 9, 1), (1, 1, 1)]
SPACE = [(0, 0, 0, 1), (3, 0, 0, 1), (0, 3, 0, 1), (0, 0, 3, 1), (2, 2, 2, 1), (5, 2, 2, 1), (1, 1, 7, 2)]

# Points, two groups, a paper of near spots and the gap.
PAPERS = [
    (LINE, (0, 1), (3, 4), (((1, 1),), ((3, 1),)), (9, 1)),
    (LINE, (0, 2), (4,), (((2, 5),), ((4, 1),)), (225, 4)),
    (LINE, (4,), (0, 2), (((4, 1),), ((2, 5),)), (225, 4)),
    (LINE, (0, 1), (2, 3), (((0, 1), (1, 1)), ((2, 1),)), (0, 1)),
    (LINE, (1,), (1,), (((1, 3),), ((1, 7),)), (0, 1)),
    (FLAT, (0, 1, 2), (3, 4, 5), (((1, 1), (2, 1)), ((3, 1),)), (18, 1)),
    (FLAT, (0,), (3,), (((0, 1),), ((3, 1),)), (50, 1)),
    (FLAT, (0, 1, 2), (6,), (((0, 2), (1, 1), (2, 1)), ((6, 1),)), (0, 1)),
    (FLAT, (1, 2), (0, 6), (((1, 1), (2, 1)), ((6, 1),)), (2, 1)),
    (SPACE, (1, 2, 3), (0,), (((1, 1), (2, 1), (3, 1)), ((0, 1),)), (3, 1)),
    (SPACE, (1, 2, 3), (4, 5), (((1, 1), (2, 1), (3, 1)), ((4, 1),)), (3, 1)),
    (SPACE, (0, 1), (4, 5), (((0, 1), (1, 2)), ((4, 1),)), (8, 1)),
]


class GapHolds(unittest.TestCase):
    def no(self, points, one, other, thing):
        self.assertIs(ask(gap_holds, points, one, other, thing), False, (points, one, other, thing))

    def as_told(self, points, one, other, thing):
        answer = ask(gap_holds, points, one, other, thing)
        self.assertIs(answer, gap_ok(points, one, other, thing), (points, one, other, thing))
        return answer

    def test_papers_that_hold(self):
        for points, one, other, paper, square in PAPERS:
            self.assertTrue(gap_ok(points, one, other, paper), (one, other, paper))
            self.assertEqual(gap_of(points, paper), Fraction(*square))
            self.assertIs(ask(gap_holds, points, one, other, paper), True)

    def test_shares_that_are_as_many_times_greater(self):
        for points, one, other, paper, square in PAPERS:
            more = (tuple((k, s * 9) for k, s in paper[0]), tuple((k, s * HUGE) for k, s in paper[1]))
            self.assertIs(ask(gap_holds, points, one, other, more), True)

    def test_more_shares_than_are_needed(self):
        # All four corners of a square mixed to its middle, against its middle.
        points = [(0, 0, 1), (4, 0, 1), (4, 4, 1), (0, 4, 1), (2, 2, 1)]
        paper = (((0, 1), (1, 1), (2, 1), (3, 1)), ((4, 1),))
        self.assertIs(ask(gap_holds, points, (0, 1, 2, 3), (4,), paper), True)
        self.assertIs(ask(gap_holds, points, (4,), (0, 1, 2, 3), paper[::-1]), True)

    def test_shares_of_a_point_of_the_other_group(self):
        points, one, other, paper, square = PAPERS[5]
        self.no(points, one, other, paper[::-1])
        self.no(points, one, other, (paper[0], paper[0]))
        self.no(points, one, other, (paper[1], paper[1]))
        self.no(points, one, other, (((1, 1), (2, 1), (3, 1)), paper[1]))
        self.no(points, one, other, (paper[0], ((2, 1), (3, 1))))
        # A point alike at the very place of one of the group is no point of it.
        doubled = points + [points[3], points[1]]
        self.no(doubled, one, other, (paper[0], ((7, 1),)))
        self.no(doubled, one, other, (((2, 1), (8, 1)), paper[1]))
        self.assertIs(gap_holds(doubled, one, (3, 4, 5, 7), (paper[0], ((7, 1),))), True)

    def test_a_point_of_no_group(self):
        self.no(LINE, (0, 1), (3, 4), (((2, 1),), ((3, 1),)))
        # These would be nearer: the point between the two groups stands in none.
        points = [(0, 1), (3, 1), (2, 1)]
        self.assertIs(gap_holds(points, (0,), (1,), (((0, 1),), ((1, 1),))), True)
        self.no(points, (0,), (1,), (((2, 1),), ((1, 1),)))
        self.no(points, (0,), (1,), (((0, 1),), ((2, 1),)))

    def test_a_number_of_no_point(self):
        for k in (-1, 5, 6, HUGE, -HUGE):
            self.no(LINE, (0, 1), (3, 4), (((k, 1),), ((3, 1),)))
            self.no(LINE, (0, 1), (3, 4), (((1, 1),), ((k, 1),)))

    def test_a_share_nought_or_below(self):
        for points, one, other, paper, square in PAPERS:
            for share in (0, -1, -HUGE):
                for side in (0, 1):
                    for at, (k, s) in enumerate(paper[side]):
                        wrong = (*paper[side][:at], (k, share), *paper[side][at + 1:])
                        self.no(points, one, other, (wrong, paper[1]) if side == 0 else (paper[0], wrong))
        self.no(LINE, (0, 1), (3, 4), (((0, 0), (1, 1)), ((3, 1),)))
        self.no(LINE, (0, 1), (3, 4), (((1, 1),), ((3, 1), (4, 0))))

    def test_rows_turned_about_twice_or_left_out(self):
        for points, one, other, paper, square in PAPERS:
            if len(paper[0]) > 1:
                self.no(points, one, other, (paper[0][::-1], paper[1]))
            self.no(points, one, other, (paper[0] + paper[0][-1:], paper[1]))
            self.no(points, one, other, (paper[0], paper[1] * 2))
            self.no(points, one, other, ((), paper[1]))
            self.no(points, one, other, (paper[0], ()))
        points, one, other, paper, square = PAPERS[7]
        for at in range(3):
            self.no(points, one, other, (paper[0][:at] + paper[0][at + 1:], paper[1]))

    def test_one_more_and_one_less(self):
        for points, one, other, paper, square in PAPERS:
            for side in (0, 1):
                for at, (k, s) in enumerate(paper[side]):
                    for share in (s + 1, s - 1):
                        new = (*paper[side][:at], (k, share), *paper[side][at + 1:])
                        self.as_told(points, one, other, (new, paper[1]) if side == 0 else (paper[0], new))
        for share in (1, 3):
            self.no(FLAT, (0, 1, 2), (6,), (((0, share), (1, 1), (2, 1)), ((6, 1),)))
        self.no(FLAT, (1, 2), (0, 6), (((1, 2), (2, 1)), ((6, 1),)))

    def test_spots_that_are_not_the_nearest(self):
        # A point of the first group lies nearer.
        self.no(LINE, (0, 1), (3, 4), (((0, 1),), ((3, 1),)))
        self.no(LINE, (0, 1), (3, 4), (((0, 1), (1, 9)), ((3, 1),)))
        # A point of the second does.
        self.no(LINE, (0, 1), (3, 4), (((1, 1),), ((4, 1),)))
        self.no(LINE, (0, 1), (3, 4), (((1, 1),), ((3, 9), (4, 1))))
        # Mixes of points do, although each point of the two is as far or farther.
        self.no(FLAT, (1, 2), (6,), (((1, 1),), ((6, 1),)))
        self.no(FLAT, (1, 2), (6,), (((2, 1),), ((6, 1),)))
        self.no(SPACE, (1, 2, 3), (0,), (((1, 1), (2, 1)), ((0, 1),)))
        # Hulls that share a spot, by two spots that are unlike.
        self.no(LINE, (0, 1), (2, 3), (((1, 1),), ((2, 1),)))

    def test_a_hair_beside_the_nearest(self):
        points = [(-10000, 1, 1), (10000, 0, 1), (0, -9, 1)]
        paper = near_spots(points, (0, 1), (2,))
        self.assertIs(gap_holds(points, (0, 1), (2,), paper), True)
        for at in (0, 1):
            k, s = paper[0][at]
            for hair in (HUGE - 1, HUGE + 1):
                rows = [(j, t * HUGE) for j, t in paper[0]]
                rows[at] = (k, s * hair)
                self.no(points, (0, 1), (2,), (tuple(rows), paper[1]))

    def test_pairs_that_are_none(self):
        for points, one, other, paper, square in PAPERS:
            first, second = paper
            for wrong in [
                (), (first,), (second,), (first, second, second), (first, second, ()), [first, second], ((first, second),), first,
                second, first + second, {0: first, 1: second}, (list(first), second), (first, list(second)), (first, None),
                (None, second), (dict(first), second), (first, dict(second)), (first[0], second[0]), (first, second[0]), square,
            ]:
                self.no(points, one, other, wrong)

    def test_rows_too_long_and_too_short_and_lists(self):
        for points, one, other, (first, second), square in PAPERS:
            k, s = first[0]
            for row in [(k,), (k, s, 1), (k, s, s), [k, s], (), (s,), k, (k, (s,)), ((k, s),), {k: s}, None, (None, s), (k, None)]:
                self.no(points, one, other, ((row, *first[1:]), second))
            k, s = second[0]
            for row in [(k,), (k, s, 1), [k, s], (), k, (k, (s,)), ((k, s),), {k: s}, "0 1", (str(k), s)]:
                self.no(points, one, other, (first, (row, *second[1:])))

    def test_truths_in_numbers_places(self):
        points = [(0, 1), (4, 1), (1, 1)]
        self.assertIs(gap_holds(points, (0,), (1,), (((0, 1),), ((1, 1),))), True)
        for thing in [
            (((False, 1),), ((1, 1),)), (((0, True),), ((1, 1),)), (((0, 1),), ((True, 1),)), (((0, 1),), ((1, True),)),
            (((False, True),), ((True, True),)),
        ]:
            self.no(points, (0,), (1,), thing)

    def test_a_part_of_another_kind(self):
        for points, one, other, paper, square in PAPERS:
            for thing in twisted(paper):
                self.no(points, one, other, thing)

    def test_a_little_changed(self):
        held = 0
        for points, one, other, paper, square in PAPERS:
            for thing in changed(paper):
                held += self.as_told(points, one, other, thing)
        self.assertGreater(held, 20)

    def test_whatever(self):
        for points, one, other, (first, second), square in (PAPERS[0], PAPERS[5], PAPERS[9]):
            for thing in odd_things():
                for wrong in [thing, (thing, second), (first, thing), (thing, thing), ((thing,), second), (first, ((3, thing),))]:
                    self.as_told(points, one, other, wrong)
                self.no(points, one, other, thing)
                self.no(points, one, other, (thing, thing))

    def test_by_chance(self):
        throw = dice(82)
        held = 0
        for directions in (1, 2, 3):
            for turn in range(60):
                points = some_points(throw, directions, 6, 2, 2)
                one, other = some_groups(throw, 6, 2, 3)
                for again in range(4):
                    thing = tuple(
                        tuple((group[k], s) for k, s in some_shares(throw, len(group), 2)) for group in (one, other)
                    )
                    held += self.as_told(points, one, other, thing)
        self.assertGreater(held, 30)

    def test_by_names_in_any_order(self):
        self.assertIs(gap_holds(thing=(((1, 1),), ((3, 1),)), other=(3, 4), one=(0, 1), points=LINE), True)
        self.assertIs(gap_holds(points=LINE, one=(3, 4), other=(0, 1), thing=(((1, 1),), ((3, 1),))), False)


class NearSpots(unittest.TestCase):
    def told(self, points, one, other):
        """The gap, once it and the near spots are held against the document's words and the checker."""
        paper = ask(near_spots, points, one, other)
        self.assertTrue(gap_ok(points, one, other, paper), (points, one, other, paper))
        self.assertIs(gap_holds(points, one, other, paper), True)
        for part in (paper, *paper, *paper[0], *paper[1]):
            self.assertTrue(is_row(part))
        square = ask(gap, points, one, other)
        self.assertTrue(is_row_of_wholes(square, 2))
        self.assertEqual(gcd(*square), 1)
        self.assertGreaterEqual(square[1], 1)
        self.assertGreaterEqual(square[0], 0)
        self.assertEqual(Fraction(*square), gap_of(points, paper))
        # The hulls share a spot just where the gap is none.
        word, proof = sharing(points, [one, other])
        self.assertEqual(square == (0, 1), word == "shared")
        self.assertEqual(square[0] == 0, square == (0, 1))
        return square

    def test_by_hand(self):
        for points, one, other, paper, square in PAPERS:
            self.assertEqual(self.told(points, one, other), square)
            self.assertEqual(self.told(points, other, one), square)

    def test_groups_of_one_point_each(self):
        throw = dice(83)
        for directions in (1, 2, 3):
            for turn in range(15):
                points = some_points(throw, directions, 2, 10000, 60)
                square = square_of([a - b for a, b in zip(*map(places_of, points))])
                self.assertEqual(self.told(points, (0,), (1,)), (square.numerator, square.denominator))
                self.assertEqual(near_spots(points, (0,), (1,)), (((0, 1),), ((1, 1),)))
                self.assertEqual(self.told(points, (1,), (1,)), (0, 1))

    def test_the_same_group_twice(self):
        throw = dice(84)
        for directions in (1, 2, 3):
            for turn in range(6):
                points = some_points(throw, directions, 9, throw.choice((2, 10000)), 60)
                group = some_groups(throw, 9, 1)[0]
                self.assertEqual(self.told(points, group, group), (0, 1))

    def test_groups_that_have_a_point_in_common(self):
        throw = dice(85)
        for directions in (1, 2, 3):
            points = some_points(throw, directions, 9, 9, 4)
            self.assertEqual(self.told(points, (0, 1, 2, 4), (4, 7, 8)), (0, 1))

    def test_groups_that_touch(self):
        for points, one, other in [
            ([(0, 1), (2, 1), (2, 1), (5, 1)], (0, 1), (2, 3)),
            ([(0, 0, 1), (4, 2, 1), (2, 1, 1), (0, 9, 1)], (0, 1), (2, 3)),
            ([(0, 0, 1), (6, 0, 1), (0, 6, 1), (3, 3, 1), (9, 9, 1), (2, 9, 1)], (0, 1, 2), (3, 4, 5)),
            ([(0, 0, 0, 1), (4, 0, 0, 1), (0, 4, 0, 1), (1, 1, 0, 1), (1, 1, 5, 1), (2, 7, 3, 1)], (0, 1, 2), (3, 4, 5)),
            ([(0, 0, 0, 1), (2, 2, 2, 1), (2, 0, 1, 1), (0, 2, 1, 1)], (0, 1), (2, 3)),
        ]:
            self.assertEqual(self.told(points, one, other), (0, 1))

    def test_a_hair_apart(self):
        for points, one, other, square in [
            ([(0, 1), (1, 60), (1, 59), (1, 1)], (0, 1), (2, 3), (1, 3540 ** 2)),
            ([(0, 0, 1), (10000, 9999, 1), (9999, 9998, 1), (9999, 1, 1)], (0, 1), (2, 3), (1, 10000 ** 2 + 9999 ** 2)),
            ([(-10000, 0, 1), (10000, 1, 1), (0, 1, 1), (0, 9, 1)], (0, 1), (2, 3), (10000 ** 2, 20000 ** 2 + 1)),
            ([(0, 0, 0, 1), (6, 0, 0, 1), (0, 6, 0, 1), (1, 1, 1, 60), (1, 1, 3, 1)], (0, 1, 2), (3, 4), (1, 3600)),
            ([(0, 0, 0, 1), (9, 9, 0, 1), (9, 0, 1, 60), (0, 9, 1, 60)], (0, 1), (2, 3), (1, 3600)),
        ]:
            self.assertEqual(self.told(points, one, other), square)

    def test_across_edges(self):
        # Two edges that cross in space at a distance, so that both spots lie within theirs.
        points = [(-3, 0, 0, 1), (3, 0, 0, 1), (0, -5, 2, 1), (0, 5, 2, 1)]
        self.assertEqual(self.told(points, (0, 1), (2, 3)), (4, 1))
        self.assertEqual(near_spots(points, (0, 1), (2, 3)), (((0, 1), (1, 1)), ((2, 1), (3, 1))))

    def test_points_alike(self):
        for point in [(3, 1), (1, 2, 3), (5, -5, 4, 60)]:
            points = [point] * 8
            self.assertEqual(self.told(points, (0, 1, 2), (3, 4, 5, 6, 7)), (0, 1))

    def test_four_hundred_and_just_above(self):
        throw = dice(86)
        for directions in (1, 2, 3):
            points = some_points(throw, directions, 40, 10000, 60)
            numbers = tuple(range(40))
            for one, other in [
                (numbers[:20], numbers[20:]), (numbers[:10], numbers), (numbers, numbers[7:17]), (numbers[:25], numbers[24:]),
            ]:
                self.assertEqual(len(one) * len(other), 400)
                self.told(points, one, other)
            # No two groups' numbers of points make 401 or 402.
            for one, other, times in [
                (numbers[:13], numbers[9:], 403), (numbers[9:], numbers[:13], 403), (numbers[:20], numbers[19:], 420),
                (numbers[:11], numbers[3:], 407), (numbers, numbers, 1600), (numbers[:11], numbers, 440),
            ]:
                self.assertEqual(len(one) * len(other), times)
                self.refused(points, one, other)
                self.refused(points[:1] * 40, one, other)

    def refused(self, points, one, other):
        kept = list(points)
        for function in (near_spots, gap):
            with self.assertRaises(HeapsError) as caught:
                function(points, one, other)
            self.assertIs(type(caught.exception), TooMany)
            self.assertIsInstance(caught.exception, ValueError)
            with self.assertRaises(TooMany):
                function(other=other, one=one, points=points)
        self.assertEqual(points, kept)

    def test_parts_of_four_hundred_arrows_far_apart(self):
        # Points of a ball against points of another, so that many arrows are nearly as near.
        ball = [p for p in itertools.product(range(-7, 8), repeat=3) if sum(n * n for n in p) == 49][:20]
        points = [(*p, 1) for p in ball] + [(a + 20, b + 3, c - 5, 1) for a, b, c in ball]
        self.assertEqual(len(points), 40)
        self.assertGreater(self.told(points, tuple(range(20)), tuple(range(20, 40)))[0], 0)

    def test_by_chance(self):
        throw = dice(87)
        none = 0
        for directions in (1, 2, 3):
            for turn in range(40):
                reach, bottom = throw.choice(((2, 1), (9, 4), (10000, 60)))
                points = some_points(throw, directions, 9, reach, bottom)
                one, other = some_groups(throw, 9, 2, 4)
                square = self.told(points, one, other)
                none += square == (0, 1)
                self.assertEqual(gap(points, other, one), square)
        self.assertGreater(none, 5)
        self.assertLess(none, 115)

    def test_no_spots_are_nearer(self):
        throw = dice(88)
        for directions in (1, 2, 3):
            for turn in range(15):
                points = some_points(throw, directions, 8, 9, 3)
                one, other = some_groups(throw, 8, 2, 4)
                square = Fraction(*self.told(points, one, other))
                all_places = [places_of(point) for point in points]
                for again in range(25):
                    x, y = [
                        mix_places([all_places[k] for k in group], some_shares(throw, len(group))) for group in (one, other)
                    ]
                    self.assertGreaterEqual(square_of([a - b for a, b in zip(x, y)]), square)

    def test_shared_by_the_told_shares_where_the_gap_is_none(self):
        points, one, other, paper, square = PAPERS[3]
        shares = near_spots(points, one, other)
        self.assertIs(shared_holds(points, [one, other], ((2, 1), shares)), True)

    def test_what_is_told_does_not_hang_on_what_is_handed_in(self):
        points = [(0, 1), (4, 1), (1, 1)]
        paper = near_spots(points, (0, 2), (1,))
        points[2] = (9, 1)
        self.assertEqual(paper, (((2, 1),), ((1, 1),)))
        self.assertEqual(self.told(points, (0, 2), (1,)), (0, 1))

    def test_by_names_in_any_order(self):
        self.assertEqual(near_spots(other=(1,), one=(0,), points=LINE), (((0, 1),), ((1, 1),)))
        self.assertEqual(gap(other=(3, 4), points=LINE, one=(0, 1)), (9, 1))
        self.assertTrue(all(is_whole(number) for number in gap(one=(0,), other=(1,), points=LINE)))


if __name__ == "__main__":
    unittest.main()
