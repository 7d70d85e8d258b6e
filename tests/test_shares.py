"""Promise 5: shares, and points mixed by them; and of 2 what it touches."""

import itertools
import unittest

from heapsmeet.shares import is_shares, mixed
from heapsmeet.spots import is_spot
from tests.support import (
    HUGE, alike, ask, changed, dice, mix_places, odd_things, places_of, shares_ok, some_points,
    some_shares, told, twisted,
)


class IsShares(unittest.TestCase):
    def test_shares(self):
        for many, thing in [
            (1, ((0, 1),)), (1, ((0, HUGE),)), (2, ((1, 1),)), (2, ((0, 3), (1, 3))),
            (3, ((0, 1), (2, 5))), (40, ((39, 1),)), (40, tuple((k, k + 1) for k in range(40))),
            (3, ((0, HUGE), (1, HUGE + 1), (2, 2 * HUGE))), (400, ((0, 1), (399, 2))), (5, ((3, 1),)),
        ]:
            self.assertIs(ask(is_shares, many, thing), True, (many, thing))

    def test_no_shares(self):
        for many, thing in [
            (0, ()), (1, ()), (0, ((0, 1),)), (1, ((1, 1),)), (2, ((2, 1),)), (2, ((-1, 1),)),
            (3, ((-3, 1),)), (2, ((0, 0),)), (2, ((0, -1),)), (2, ((0, -HUGE),)), (2, ((HUGE, 1),)),
            (2, ((-HUGE, 1),)), (3, ((0, 1), (0, 1))), (3, ((1, 1), (0, 1))), (3, ((0, 1), (1, 0))),
            (3, ((0, 1), (2, 1), (1, 1))), (3, ((0, 1), (1, 1), (1, 2))), (3, ((0, 0), (1, 1))),
            (3, ((0, 1), (1, 1), (3, 1))), (3, ((-1, 1), (0, 1))), (3, ((0, 1), (1, -1), (2, 1))),
            (40, ((40, 1),)), (40, tuple((k, 1) for k in range(41))), (3, ((2, 1), (1, 1), (0, 1))),
            (3, (0, 1)), (3, ((0,),)), (3, ((0, 1, 1),)), (3, ((0, 1), (1,))), (3, ((0, 1), (1, 1, 1))),
            (3, ((),)), (3, ((0, 1), ())), (3, [(0, 1)]), (3, ([0, 1],)), (3, {0: 1}), (3, ((0, 1), [1, 1])),
        ]:
            self.assertIs(ask(is_shares, many, thing), False, (many, thing))

    def test_truths_are_no_numbers(self):
        for thing in [((False, 1),), ((0, True),), ((0, 1), (True, 1)), ((0, 1), (1, True)), ((False, True),)]:
            self.assertIs(ask(is_shares, 3, thing), False, thing)

    def test_all_small_ones(self):
        pairs = list(itertools.product(range(-1, 4), range(-1, 3)))
        for many in range(4):
            for size in (1, 2):
                for thing in itertools.product(pairs, repeat=size):
                    self.assertIs(is_shares(many, thing), shares_ok(many, thing), (many, thing))

    def test_a_part_of_another_kind(self):
        for thing in [((0, 1),), ((1, 2), (3, 1)), ((0, 1), (1, 1), (2, 1), (3, 1))]:
            self.assertIs(is_shares(4, thing), True)
            for wrong in twisted(thing):
                self.assertIs(ask(is_shares, 4, wrong), False, wrong)

    def test_a_little_changed(self):
        for thing in [((0, 1),), ((1, 2), (3, 1)), ((0, 5), (1, 1), (2, 1), (3, 7))]:
            for other in changed(thing):
                self.assertIs(ask(is_shares, 4, other), shares_ok(4, other), other)

    def test_whatever(self):
        for thing in odd_things():
            for many in (0, 1, 2, 40):
                self.assertIs(ask(is_shares, many, thing), False)
            self.assertIs(ask(is_shares, 3, (thing,)), False)
            self.assertIs(ask(is_shares, 3, ((0, 1), thing)), False)
            if type(thing) is not int:
                self.assertIs(ask(is_shares, 3, ((0, thing),)), False)
                self.assertIs(ask(is_shares, 3, ((thing, 1),)), False)

    def test_by_names_in_any_order(self):
        self.assertIs(is_shares(many=2, thing=((1, 1),)), True)
        self.assertIs(is_shares(thing=((1, 1),), many=1), False)


class Mixed(unittest.TestCase):
    def holds(self, points, shares):
        """The told mix, held against the sums of the document."""
        spot = ask(mixed, points, shares)
        expected = told(mix_places([places_of(point) for point in points], shares))
        self.assertTrue(alike(spot, expected), (points, shares, spot))
        self.assertIs(is_spot(spot), True)
        return spot

    def test_told_mixes(self):
        for points, shares, spot in [
            ([(3, 1)], ((0, 1),), (3, 1)), ([(3, 1)], ((0, 7),), (3, 1)), ([(1, 2)], ((0, HUGE),), (1, 2)),
            ([(0, 1), (1, 1)], ((0, 1), (1, 1)), (1, 2)), ([(0, 1), (1, 1)], ((0, 1), (1, 2)), (2, 3)),
            ([(0, 1), (1, 1)], ((0, 2), (1, 2)), (1, 2)), ([(0, 1), (1, 1)], ((1, 5),), (1, 1)),
            ([(1, 2), (1, 3)], ((0, 1), (1, 1)), (5, 12)), ([(1, 2), (1, 3)], ((0, 2), (1, 3)), (2, 5)),
            ([(-1, 1), (1, 1)], ((0, 1), (1, 1)), (0, 1)), ([(5, 1), (5, 1)], ((0, 1), (1, 3)), (5, 1)),
            ([(0, 0, 1), (4, 0, 1), (0, 4, 1)], ((0, 2), (1, 1), (2, 1)), (1, 1, 1)),
            ([(0, 0, 1), (1, 0, 1), (0, 1, 1)], ((1, 1), (2, 1)), (1, 1, 2)),
            ([(0, 0, 0, 1), (1, 2, 3, 6)], ((0, 1), (1, 1)), (1, 2, 3, 12)),
            ([(0, 0, 0, 1), (0, 0, 0, 1)], ((0, 1), (1, 1)), (0, 0, 0, 1)),
            ([(60, 0, 0, 1), (0, 60, 0, 1), (0, 0, 60, 1)], ((0, 1), (1, 2), (2, 3)), (10, 20, 30, 1)),
        ]:
            self.assertEqual(self.holds(points, shares), spot)

    def test_points_and_shares_of_all_sizes(self):
        throw = dice(5)
        for directions in (1, 2, 3):
            for many in (1, 2, 3, 7, 40):
                for reach, bottom in ((3, 1), (9, 6), (10000, 60)):
                    points = some_points(throw, directions, many, reach, bottom)
                    self.holds(points, some_shares(throw, many))
                    self.holds(points, some_shares(throw, many, HUGE))
                    self.holds(points, tuple((k, 1) for k in range(many)))
                    self.holds(points, ((many - 1, 3),))

    def test_shares_that_are_scaled_mix_to_the_same(self):
        throw = dice(55)
        for directions in (1, 2, 3):
            points = some_points(throw, directions, 6)
            shares = some_shares(throw, 6)
            for factor in (2, 60, HUGE):
                scaled = tuple((k, factor * s) for k, s in shares)
                self.assertEqual(mixed(points, scaled), mixed(points, shares))

    def test_one_share_is_the_point(self):
        throw = dice(56)
        for directions in (1, 2, 3):
            points = some_points(throw, directions, 5, 10000, 60)
            for k in range(5):
                self.assertEqual(self.holds(points, ((k, throw.randint(1, 9)),)), points[k])

    def test_spots_that_are_no_points(self):
        far = [(HUGE, 1), (-HUGE, 2), (1, HUGE), (HUGE + 1, HUGE)]
        self.holds(far, ((0, 1), (1, 1), (2, 1), (3, 1)))
        self.holds(far, ((0, HUGE), (3, 1)))
        self.holds([(10001, -20000, 61), (HUGE, 3, 77), (1, 1, HUGE)], ((0, 2), (1, 3), (2, 4)))
        self.holds([(HUGE, 1, 2, HUGE + 1), (0, 0, 1, 10 ** 200)], ((0, HUGE), (1, 1)))
        throw = dice(57)
        for directions in (1, 2, 3):
            spots = some_points(throw, directions, 40, HUGE, 10 ** 30)
            self.holds(spots, some_shares(throw, 40, HUGE))

    def test_more_than_forty(self):
        points = some_points(dice(58), 2, 45)
        self.holds(points, tuple((k, k + 1) for k in range(45)))

    def test_what_is_done_behind_the_call(self):
        points = [(0, 1), (1, 1)]
        first = mixed(points, ((0, 1), (1, 1)))
        points[1] = (3, 1)
        self.assertEqual(first, (1, 2))
        self.assertEqual(mixed(points, ((0, 1), (1, 1))), (3, 2))

    def test_by_names_in_any_order(self):
        points = [(0, 1), (1, 1)]
        self.assertEqual(mixed(points=points, shares=((0, 1), (1, 1))), (1, 2))
        self.assertEqual(mixed(shares=((0, 1), (1, 1)), points=points), (1, 2))


if __name__ == "__main__":
    unittest.main()
