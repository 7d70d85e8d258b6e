"""Promise 25: shadows of spots and points, walls led back; and of 2 and 3 what they touch."""

import itertools
import unittest

from heapsmeet.groups import apart_holds, shared_holds
from heapsmeet.heaps import heaps
from heapsmeet.heapspaper import heaps_hold
from heapsmeet.hulls import without_holds
from heapsmeet.places import place
from heapsmeet.shadows import led_back, shadow, shadow_spot
from heapsmeet.shares import mixed
from heapsmeet.sharing import sharing
from heapsmeet.spots import is_points
from tests.support import (
    HUGE, ask, dice, heaps_ok, is_row, is_row_of_wholes, is_whole, lowest, places_of, shared_ok, some_groups, some_points,
    some_shares, some_spot, spot_ok, sum_at, told, without_ok,
)

ALL_KEPT = {
    many: [kept for size in range(1, many + 1) for kept in itertools.combinations(range(many), size)]
    for many in (1, 2, 3)
}


class ShadowSpot(unittest.TestCase):
    def told(self, spot, kept):
        found = ask(shadow_spot, spot, kept)
        self.assertTrue(spot_ok(found), (spot, kept, found))
        self.assertEqual(found, told([places_of(spot)[at] for at in kept]))
        return found

    def test_by_hand(self):
        for spot, kept, found in [
            ((3, 1), (0,), (3, 1)), ((-7, 9), (0,), (-7, 9)), ((0, 1), (0,), (0, 1)),
            ((1, 2, 3), (0,), (1, 3)), ((1, 2, 3), (1,), (2, 3)), ((1, 2, 3), (0, 1), (1, 2, 3)),
            ((1, 2, 3, 4), (0,), (1, 4)), ((1, 2, 3, 4), (1,), (1, 2)), ((1, 2, 3, 4), (2,), (3, 4)),
            ((1, 2, 3, 4), (0, 1), (1, 2, 4)), ((1, 2, 3, 4), (0, 2), (1, 3, 4)), ((1, 2, 3, 4), (1, 2), (2, 3, 4)),
            ((1, 2, 3, 4), (0, 1, 2), (1, 2, 3, 4)),
        ]:
            self.assertEqual(self.told(spot, kept), found, (spot, kept))

    def test_a_part_in_common(self):
        self.assertEqual(self.told((1, 6, 6), (1,)), (1, 1))
        self.assertEqual(self.told((1, -6, 9), (1,)), (-2, 3))
        self.assertEqual(self.told((6, 10, 15, 30), (0,)), (1, 5))
        self.assertEqual(self.told((6, 10, 15, 30), (1,)), (1, 3))
        self.assertEqual(self.told((6, 10, 15, 30), (2,)), (1, 2))
        self.assertEqual(self.told((6, 10, 15, 30), (0, 1)), (3, 5, 15))
        self.assertEqual(self.told((6, 10, 15, 30), (1, 2)), (2, 3, 6))
        self.assertEqual(self.told((7, 0, 0, 60), (1, 2)), (0, 0, 1))

    def test_spots_that_are_no_points(self):
        for spot in [(HUGE, 1, HUGE - 1), (2, HUGE - 1, 2 * HUGE), (HUGE, -HUGE, 7, 61), (10001, 0, 0, 1)]:
            spot = lowest(spot[:-1], spot[-1])
            for kept in ALL_KEPT[len(spot) - 1]:
                self.told(spot, kept)

    def test_by_chance(self):
        throw = dice(100)
        for directions in (1, 2, 3):
            for kept in ALL_KEPT[directions]:
                for turn in range(20):
                    spot = some_spot(throw, directions, throw.choice((9, 10 ** 40)), throw.choice((4, 60, 10 ** 20)))
                    self.told(spot, kept)
                    if len(kept) == directions:
                        self.assertEqual(shadow_spot(spot, kept), spot)

    def test_shadows_of_shadows(self):
        throw = dice(101)
        for turn in range(20):
            spot = some_spot(throw, 3, 30, 30)
            for at in range(3):
                for kept in [row for row in ALL_KEPT[3] if at in row]:
                    self.assertEqual(shadow_spot(shadow_spot(spot, kept), (kept.index(at),)), shadow_spot(spot, (at,)))

    def test_by_names_in_any_order(self):
        self.assertEqual(shadow_spot(kept=(1,), spot=(1, 2, 3)), (2, 3))
        self.assertEqual(shadow_spot(spot=(1, 2, 4), kept=(1,)), (1, 2))


class Shadow(unittest.TestCase):
    def told(self, points, kept):
        found = ask(shadow, points, kept)
        self.assertIs(type(found), list)
        self.assertEqual(found, [told([places_of(point)[at] for at in kept]) for point in points])
        self.assertTrue(all(spot_ok(spot) for spot in found))
        return found

    def test_no_points(self):
        for kept in ALL_KEPT[3]:
            self.assertEqual(self.told([], kept), [])

    def test_points(self):
        throw = dice(102)
        for directions in (1, 2, 3):
            for kept in ALL_KEPT[directions]:
                for many in (1, 2, 40):
                    points = some_points(throw, directions, many, 10000, 60)
                    # Seen in fewer directions a point stays one.
                    self.assertIs(is_points(self.told(points, kept)), True)
        self.assertEqual(self.told([(1, 2, 2), (1, 2, 2), (0, 3, 1)], (1,)), [(1, 1), (1, 1), (3, 1)])

    def test_spots_that_are_no_points(self):
        self.told([lowest((HUGE, 5), HUGE - 1), (0, 0, 1)], (0,))

    def test_the_list_is_the_askers_own(self):
        points = [(1, 1), (2, 1)]
        found = shadow(points, (0,))
        self.assertEqual(found, points)
        found.append((3, 1))
        self.assertEqual(points, [(1, 1), (2, 1)])
        self.assertEqual(shadow(points, (0,)), [(1, 1), (2, 1)])
        points[0] = (7, 1)
        self.assertEqual(found, [(1, 1), (2, 1), (3, 1)])

    def test_mixes_stay_mixes(self):
        throw = dice(103)
        for directions in (2, 3):
            for kept in ALL_KEPT[directions]:
                points = some_points(throw, directions, 7, 99, 60)
                shares = some_shares(throw, 7)
                self.assertEqual(mixed(shadow(points, kept), shares), shadow_spot(mixed(points, shares), kept))

    def test_papers_stay_papers(self):
        throw = dice(104)
        for directions in (1, 2, 3):
            for turn in range(5):
                points = some_points(throw, directions, 9, 9, 4)
                paper = heaps(points, 3 if directions < 3 else 2)
                groups = some_groups(throw, 9, 3, 8)
                word, proof = sharing(points, groups)
                for kept in ALL_KEPT[directions]:
                    parting, spot, rows = paper
                    seen, flat = (parting, shadow_spot(spot, kept), rows), self.told(points, kept)
                    self.assertTrue(heaps_ok(flat, len(parting), seen))
                    self.assertIs(heaps_hold(flat, len(parting), seen), True)
                    if word == "shared":
                        seen = (shadow_spot(proof[0], kept), proof[1])
                        self.assertTrue(shared_ok(flat, groups, seen))
                        self.assertIs(shared_holds(flat, groups, seen), True)

    def test_by_names_in_any_order(self):
        self.assertEqual(shadow(kept=(0,), points=[(1, 2, 3)]), [(1, 3)])


class LedBack(unittest.TestCase):
    def told(self, wall, kept, directions):
        found = ask(led_back, wall, kept, directions)
        self.assertTrue(is_row(found, 2) and is_row_of_wholes(found[0], directions) and is_whole(found[1]))
        self.assertEqual(found[1], wall[1])
        for at in range(directions):
            self.assertEqual(found[0][at], wall[0][kept.index(at)] if at in kept else 0)
        return found

    def test_by_hand(self):
        for wall, kept, directions, found in [
            (((5,), -3), (0,), 1, ((5,), -3)), (((5,), -3), (0,), 2, ((5, 0), -3)), (((5,), -3), (1,), 2, ((0, 5), -3)),
            (((5,), 0), (2,), 3, ((0, 0, 5), 0)), (((5,), 4), (1,), 3, ((0, 5, 0), 4)), (((5, -6), 1), (0, 1), 3, ((5, -6, 0), 1)),
            (((5, -6), 1), (0, 2), 3, ((5, 0, -6), 1)), (((0, -6), 1), (1, 2), 3, ((0, 0, -6), 1)),
            (((4, 6, 8), 2), (0, 1, 2), 3, ((4, 6, 8), 2)), (((HUGE, -HUGE), HUGE), (0, 1), 2, ((HUGE, -HUGE), HUGE)),
        ]:
            self.assertEqual(self.told(wall, kept, directions), found)

    def test_its_sums_are_those_at_the_shadows(self):
        throw = dice(105)
        for directions in (1, 2, 3):
            for kept in ALL_KEPT[directions]:
                for turn in range(10):
                    row = tuple(throw.randint(-9, 9) for k in kept)
                    if any(row):
                        back = self.told((row, throw.randint(-9, 9)), kept, directions)
                        spot = some_spot(throw, directions, 30, 9)
                        self.assertEqual(sum_at(back[0], spot), sum_at(row, shadow_spot(spot, kept)))

    def test_walls_of_shadows_are_walls_of_the_points(self):
        throw = dice(106)
        seen = 0
        for directions in (1, 2, 3):
            for kept in ALL_KEPT[directions]:
                for turn in range(6):
                    points = some_points(throw, directions, throw.choice((0, 1, 4)), 5, 3)
                    spot = some_spot(throw, directions, 9, 3)
                    word, wall = place(shadow(points, kept), shadow_spot(spot, kept))
                    if word == "without":
                        seen += 1
                        back = self.told(wall, kept, directions)
                        self.assertTrue(without_ok(points, spot, back))
                        self.assertIs(without_holds(points, spot, back), True)
        self.assertGreater(seen, 20)

    def test_groups_whose_shadows_are_apart_are_apart(self):
        points = [(0, 0, 1), (1, 5, 1), (3, 0, 1), (4, 5, 1)]
        groups = [(0, 1), (2, 3)]
        word, paper = sharing(shadow(points, (0,)), groups)
        self.assertEqual(word, "apart")
        back = tuple(self.told(side, (0,), 2) for side in paper)
        self.assertIs(apart_holds(points, groups, back), True)

    def test_by_names_in_any_order(self):
        self.assertEqual(led_back(directions=2, kept=(1,), wall=((5,), 3)), ((0, 5), 3))
        self.assertEqual(led_back(kept=(0,), wall=((5,), 3), directions=2), ((5, 0), 3))


if __name__ == "__main__":
    unittest.main()
