"""Promises 17 and 18: heaps by lifted arrows; and of 2 and 3 what they touch."""

import itertools
import unittest
from fractions import Fraction

from heapsmeet.errors import HeapsError, TooFew, TooMany
from heapsmeet.exchanges import exchanged
from heapsmeet.heaps import by_choice, heaps, lifted
from heapsmeet.heapspaper import heaps_hold
from heapsmeet.near import nearest
from tests.support import (
    HUGE, ask, dice, heaps_ok, is_row, is_row_of_wholes, mix_places, near_ok, places_of, some_points, told,
)

# As many heaps as are let, by directions: then 13 points are enough.
MOST = {1: 7, 2: 5, 3: 4}


def lifted_as_told(points, many):
    """The lifted arrows by the words of 17."""
    width = len(points[0])
    colours = []
    for point in points[:(many - 1) * width + 1]:
        colour = []
        for turn in range(many - 1):
            arrow = [0] * (width * (many - 1))
            arrow[turn * width:(turn + 1) * width] = point
            colour.append(tuple(arrow))
        colour.append(tuple(-number for turn in range(many - 1) for number in point))
        colours.append(colour)
    return colours


def paper_as_told(points, many, choice, shares):
    """The paper by the words of 18."""
    heaps = [[] for heap in range(many)]
    for k in range(len(points)):
        heaps[choice[k] if k < len(choice) else many - 1].append(k)
    rows = [[] for heap in range(many)]
    for k, share in shares:
        rows[choice[k]].append((k, share * points[k][-1]))
    spots = {told(mix_places([places_of(point) for point in points], row)) for row in rows}
    if len(spots) != 1:
        raise AssertionError("the heaps' points are mixed to unlike spots")
    return tuple(map(tuple, heaps)), spots.pop(), tuple(map(tuple, rows))


class Lifted(unittest.TestCase):
    def told(self, points, many):
        colours = ask(lifted, points, many)
        self.assertIs(type(colours), list)
        for colour in colours:
            self.assertIs(type(colour), list)
            self.assertTrue(all(is_row_of_wholes(arrow) for arrow in colour))
        self.assertEqual(colours, lifted_as_told(points, many))
        return colours

    def test_by_hand(self):
        self.assertEqual(self.told([(5, 3), (0, 1), (-2, 1)], 2), [
            [(5, 3), (-5, -3)], [(0, 1), (0, -1)], [(-2, 1), (2, -1)],
        ])
        self.assertEqual(self.told([(k, 1) for k in range(9)], 3)[4], [(4, 1, 0, 0), (0, 0, 4, 1), (-4, -1, -4, -1)])
        self.assertEqual(self.told([(7, -8, 9)] * 7, 3)[6], [
            (7, -8, 9, 0, 0, 0), (0, 0, 0, 7, -8, 9), (-7, 8, -9, -7, 8, -9),
        ])
        self.assertEqual(self.told([(1, 2, 3, 4)] * 5, 2)[0], [(1, 2, 3, 4), (-1, -2, -3, -4)])

    def test_all_counts(self):
        throw = dice(42)
        for directions, most in MOST.items():
            for many in range(2, most + 1):
                count = (many - 1) * (directions + 1) + 1
                for points in (count, count + 1, 20, 40):
                    colours = self.told(some_points(throw, directions, points, 10000, 60), many)
                    self.assertEqual(len(colours), count)
                    self.assertEqual({len(colour) for colour in colours}, {many})

    def test_each_colour_holds_nought(self):
        for colour in self.told(some_points(dice(43), 2, 7), 3):
            self.assertTrue(near_ok(colour, ((0, 1), (1, 1), (2, 1))))
            self.assertFalse(any(mix_places(colour, nearest(colour))))

    def test_what_is_told_is_the_askers_own(self):
        points = [(5, 3), (0, 1), (-2, 1)]
        first = lifted(points, 2)
        first[0][0] = (9, 9)
        first[1].clear()
        first.pop()
        self.assertEqual(lifted(points, 2), lifted_as_told(points, 2))
        self.assertEqual(points, [(5, 3), (0, 1), (-2, 1)])
        # Points alike have colours that are alike, and not the same list.
        colours = lifted([(1, 1)] * 3, 2)
        colours[0].append((0, 0))
        self.assertEqual(colours[1:], lifted_as_told([(1, 1)] * 3, 2)[1:])

    def test_by_names_in_any_order(self):
        self.assertEqual(lifted(many=2, points=[(1, 1)] * 3), lifted(points=[(1, 1)] * 3, many=2))


class ByChoice(unittest.TestCase):
    def told(self, points, many, choice, shares):
        chosen = [colour[k] for colour, k in zip(lifted_as_told(points, many), choice)]
        self.assertFalse(any(mix_places(chosen, shares)), "the mix isn't nought")
        paper = ask(by_choice, points, many, choice, shares)
        self.assertEqual(paper, paper_as_told(points, many, choice, shares))
        self.assertTrue(heaps_ok(points, many, paper), (points, choice, shares, paper))
        self.assertIs(heaps_hold(points, many, paper), True)
        return paper

    def test_by_hand(self):
        self.assertEqual(
            self.told([(0, 1), (4, 1), (1, 1)], 2, (0, 0, 1), ((0, 3), (1, 1), (2, 4))),
            (((0, 1), (2,)), (1, 1), (((0, 3), (1, 1)), ((2, 4),))),
        )
        self.assertEqual(
            self.told([(0, 1), (4, 1), (1, 1)], 2, (1, 1, 0), ((0, 3), (1, 1), (2, 4))),
            (((2,), (0, 1)), (1, 1), (((2, 4),), ((0, 3), (1, 1)))),
        )

    def test_shares_as_they_come_times_the_bottoms(self):
        points = [(1, 2), (1, 2), (1, 2)]
        self.assertEqual(
            self.told(points, 2, (0, 1, 0), ((0, 6), (1, 12), (2, 6))),
            (((0, 2), (1,)), (1, 2), (((0, 12), (2, 12)), ((1, 24),))),
        )
        points = [(1, 2), (1, 3), (5, 12)]
        self.assertEqual(
            self.told(points, 2, (0, 0, 1), ((0, 6), (1, 4), (2, 2))),
            (((0, 1), (2,)), (5, 12), (((0, 12), (1, 12)), ((2, 24),))),
        )
        self.assertEqual(
            self.told(points, 2, (0, 0, 1), ((0, 6 * HUGE), (1, 4 * HUGE), (2, 2 * HUGE)))[2],
            (((0, 12 * HUGE), (1, 12 * HUGE)), ((2, 24 * HUGE),)),
        )

    def test_points_without_a_share(self):
        self.assertEqual(
            self.told([(0, 1), (5, 1), (0, 1)], 2, (0, 0, 1), ((0, 1), (2, 1))),
            (((0, 1), (2,)), (0, 1), (((0, 1),), ((2, 1),))),
        )
        self.assertEqual(self.told([(0, 1), (5, 1), (0, 1)], 2, (0, 1, 1), ((0, 1), (2, 1)))[0], ((0,), (1, 2)))

    def test_points_behind_fall_to_the_last_heap(self):
        points = [(0, 1), (4, 1), (1, 1), (9, 7), (1, 1), (0, 1)]
        self.assertEqual(self.told(points, 2, (0, 0, 1), ((0, 3), (1, 1), (2, 4)))[0], ((0, 1), (2, 3, 4, 5)))
        self.assertEqual(self.told(points, 2, (1, 1, 0), ((0, 3), (1, 1), (2, 4)))[0], ((2,), (0, 1, 3, 4, 5)))

    def test_last_steps_of_trails(self):
        throw = dice(44)
        for directions, most in MOST.items():
            for many in range(2, most + 1):
                count = (many - 1) * (directions + 1) + 1
                for reach, bottom in ((1, 1), (9, 6), (10000, 60)):
                    for more in (0, 3):
                        points = some_points(throw, directions, count + more, reach, bottom)
                        choice, shares = exchanged(lifted(points, many))[-1]
                        self.told(points, many, choice, shares)
                        self.told(points, many, choice, tuple((k, 7 * share) for k, share in shares))

    def test_all_choices(self):
        throw = dice(45)
        for directions, many in ((1, 2), (2, 2), (3, 2), (1, 3)):
            count = (many - 1) * (directions + 1) + 1
            points = some_points(throw, directions, count + 1, 4, 3)
            seen = 0
            for choice in itertools.product(range(many), repeat=count):
                chosen = [colour[k] for colour, k in zip(lifted(points, many), choice)]
                shares = nearest(chosen)
                if not any(mix_places(chosen, shares)):
                    seen += 1
                    self.told(points, many, choice, shares)
            self.assertGreater(seen, 0)

    def test_by_names_in_any_order(self):
        paper = by_choice(shares=((0, 1), (2, 1)), choice=(0, 1, 1), many=2, points=[(0, 1), (5, 1), (0, 1)])
        self.assertEqual(paper, (((0,), (1, 2)), (0, 1), (((0, 1),), ((2, 1),))))


class Heaps(unittest.TestCase):
    def told(self, points, many):
        paper = ask(heaps, points, many)
        self.assertTrue(heaps_ok(points, many, paper), (points, many, paper))
        self.assertIs(heaps_hold(points, many, paper), True)
        for part in (paper, *paper, *paper[0], *paper[2], *[share for row in paper[2] for share in row]):
            self.assertTrue(is_row(part))
        return paper

    def refused(self, refusal, points, many):
        with self.assertRaises(HeapsError) as caught:
            heaps(points, many)
        self.assertIs(type(caught.exception), refusal, (points, many))
        self.assertIsInstance(caught.exception, ValueError)
        kept = list(points)
        with self.assertRaises(refusal):
            heaps(many=many, points=points)
        self.assertEqual(points, kept)

    def test_one_heap(self):
        throw = dice(46)
        for directions in (1, 2, 3):
            for many in (1, 2, 5, 20):
                points = some_points(throw, directions, many, 10000, 60)
                self.assertEqual(self.told(points, 1)[0], (tuple(range(many)),))

    def test_just_enough_and_more(self):
        throw = dice(47)
        for directions, most in MOST.items():
            for many in range(1, most + 1):
                count = (many - 1) * (directions + 1) + 1
                for reach, bottom in ((1, 1), (3, 2), (9, 9), (10000, 60)):
                    for points in (count, count, count + 1, 20):
                        self.told(some_points(throw, directions, points, reach, bottom), many)

    def test_one_fewer(self):
        throw = dice(48)
        for directions, most in MOST.items():
            for many in range(2, most + 1):
                count = (many - 1) * (directions + 1) + 1
                points = some_points(throw, directions, count)
                self.told(points, many)
                self.refused(TooFew, points[1:], many)
                self.refused(TooFew, points[:1], many)
                # Points that would share a spot are too few all the same.
                self.refused(TooFew, points[:1] * (count - 1), many)

    def test_more_heaps_than_are_let(self):
        throw = dice(49)
        for directions, most in MOST.items():
            points = some_points(throw, directions, 40)
            for many in (most + 1, most + 2, 40, HUGE):
                self.refused(TooMany, points, many)
                # Both refusals are due: the one told first is answered.
                self.refused(TooMany, points[:5], many)
                self.refused(TooMany, points[:1], many)
            self.told(points[:20], most)
            self.refused(TooFew, points[:12], most)

    def test_no_points(self):
        for many in (1, 2, 3, 7, 8, 14, 40, HUGE):
            self.refused(TooFew, [], many)

    def test_in_a_line(self):
        parting, spot, rows = self.told([(0, 1), (4, 1), (1, 1)], 2)
        self.assertEqual(set(parting), {(0, 1), (2,)})
        self.assertEqual(spot, (1, 1))
        # The middle one of thirteen has to be a heap of its own.
        parting, spot, rows = self.told([(k * k, 1) for k in range(13)], 7)
        self.assertIn((6,), parting)
        self.assertEqual(spot, (36, 1))

    def test_in_a_plane(self):
        # Of these seven points the last lies among six others, by threes in two ways.
        points = [(0, 0, 1), (6, 0, 1), (3, 6, 1), (0, 4, 1), (6, 4, 1), (3, -2, 1), (3, 2, 1)]
        parting, spot, rows = self.told(points, 3)
        self.assertEqual(len(parting), 3)

    def test_points_alike(self):
        for directions, most in MOST.items():
            point = some_points(dice(50), directions, 1, 10000, 60)[0]
            for many in range(1, most + 1):
                for count in ((many - 1) * (directions + 1) + 1, 20):
                    self.assertEqual(self.told([point] * count, many)[1], point)

    def test_points_alike_by_twos(self):
        throw = dice(51)
        for directions, most in MOST.items():
            for turn in range(4):
                points = [throw.choice(some_points(dice(7), directions, 3)) for k in range(13)]
                self.told(points, most)

    def test_points_on_a_line_and_in_a_plane(self):
        throw = dice(52)
        for turn in range(3):
            steps = [throw.randint(-99, 99) for k in range(13)]
            self.told([(k, 2 * k, 1) for k in steps], 5)
            self.told([(3 * k, -k, 2 * k, 1) for k in steps], 4)
            self.told([(7, k, j, 1) for k, j in zip(steps, steps[::-1])], 4)
            self.told([(k, j, k + j, 1) for k, j in zip(steps, steps[::-1])], 4)

    def test_points_with_bottoms(self):
        self.told([(1, 60 - k) for k in range(13)], 7)
        self.told([(k * k - 9, k, 59 - k) if k % 2 else (1, k, 60) for k in range(1, 14)], 5)
        self.told([(1, k, -k * k, 47 + k) for k in range(13)], 4)

    def test_the_spot_is_deep_in_a_line(self):
        # Each heap has a point on each side of the spot, or at it.
        throw = dice(53)
        for turn in range(10):
            points = some_points(throw, 1, 13, 50, 3)
            spot = Fraction(*self.told(points, 7)[1])
            self.assertGreaterEqual(sum(1 for point in points if Fraction(*point) >= spot), 7)
            self.assertGreaterEqual(sum(1 for point in points if Fraction(*point) <= spot), 7)

    def test_what_is_told_does_not_hang_on_what_is_handed_in(self):
        points = [(0, 1), (4, 1), (1, 1)]
        paper = heaps(points, 2)
        points[2] = (9, 1)
        self.assertTrue(heaps_ok([(0, 1), (4, 1), (1, 1)], 2, paper))
        self.assertEqual(self.told(points, 2)[1], (4, 1))

    def test_by_names_in_any_order(self):
        self.assertEqual(heaps(many=1, points=[(3, 1)])[0], ((0,),))
        self.assertEqual(heaps(points=[(3, 1)] * 3, many=2)[1], (3, 1))


if __name__ == "__main__":
    unittest.main()
