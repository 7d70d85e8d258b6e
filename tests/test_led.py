"""Promise 26: spots, points, papers and walls led by a table and a shift; and of 2 and 3 what they touch."""

import itertools
import unittest
from fractions import Fraction

from heapsmeet.errors import Flat, HeapsError
from heapsmeet.groups import shared_holds
from heapsmeet.heaps import heaps
from heapsmeet.heapspaper import heaps_hold
from heapsmeet.hulls import without_holds
from heapsmeet.led import led_heaps, led_points, led_shared, led_spot, wall_led
from heapsmeet.places import place
from heapsmeet.sharing import sharing
from heapsmeet.spots import is_points
from tests.support import (
    HUGE, ask, dice, heaps_ok, is_row, is_row_of_wholes, is_whole, lowest, places_of, rank, shared_ok, some_groups, some_points,
    some_spot, spot_ok, sum_at, told, without_ok,
)

STAYS = {1: ((1,),), 2: ((1, 0), (0, 1)), 3: ((1, 0, 0), (0, 1, 0), (0, 0, 1))}
NOUGHTS = {many: ((0,) * many,) * many for many in (1, 2, 3)}
GREATEST = [
    ((1000,),), ((-1000,),), ((1000, 1000), (1000, -1000)), ((-1000, 999), (1000, -1000)),
    ((1000, 1000, 1000), (1000, -1000, 1000), (-1000, 1000, 1000)), ((1000, 1000, 999), (1000, 999, 1000), (999, 1000, 1000)),
]
# Tables that lead two spots to one, each in another way.
FLAT = [
    ((0,),), ((0, 0), (0, 0)), ((1, 2), (1, 2)), ((1, 2), (0, 0)), ((0, 0), (3, 4)), ((1, 2), (2, 4)), ((1, 2), (-1, -2)),
    ((0, 5), (0, 7)), ((5, 0), (7, 0)), ((1000, 1000), (1000, 1000)), ((1000, -1000), (-1000, 1000)),
    NOUGHTS[3], ((1, 2, 3), (1, 2, 3), (4, 5, 7)), ((1, 2, 3), (4, 5, 7), (1, 2, 3)), ((4, 5, 7), (1, 2, 3), (1, 2, 3)),
    ((1, 2, 3),) * 3, ((0, 0, 0), (1, 2, 3), (3, 2, 2)), ((1, 2, 3), (0, 0, 0), (3, 2, 2)), ((1, 2, 3), (3, 2, 2), (0, 0, 0)),
    ((1, 0, 2), (3, 0, 4), (5, 0, 7)), ((0, 1, 2), (0, 3, 4), (0, 5, 7)), ((1, 2, 0), (3, 4, 0), (5, 7, 0)),
    ((1, 2, 3), (4, 5, 6), (7, 8, 9)), ((1, 1, 0), (0, 1, 1), (1, 2, 1)), ((2, 4, 6), (1, 2, 3), (9, 9, 9)),
    ((1000, 1000, 1000), (1000, -1000, 0), (0, 1000, 500)), ((1, 1, 2), (3, 3, 6), (5, 7, 12)),
]


def flipped(table):
    return tuple(zip(*table))


def led_places(spot, table, shift):
    places = places_of(spot)
    return [sum((n * place for n, place in zip(row, places)), Fraction(0)) + step for row, step in zip(table, shift)]


def some_table(throw, many, reach=5):
    return tuple(tuple(throw.randint(-reach, reach) for k in range(many)) for j in range(many))


def some_shift(throw, many, reach=9):
    return tuple(throw.randint(-reach, reach) for k in range(many))


def is_flat(table):
    return rank([[Fraction(n) for n in row] for row in table]) < len(table)


class LedSpots(unittest.TestCase):
    def told(self, spot, table, shift):
        found = ask(led_spot, spot, table, shift)
        self.assertTrue(spot_ok(found), (spot, table, shift, found))
        self.assertEqual(found, told(led_places(spot, table, shift)))
        return found

    def test_by_hand(self):
        for spot, table, shift, found in [
            ((3, 1), ((2,),), (5,), (11, 1)), ((1, 2), ((4,),), (-2,), (0, 1)), ((1, 6), ((2,),), (0,), (1, 3)),
            ((1, 2, 1), ((0, 1), (1, 0)), (0, 0), (2, 1, 1)), ((1, 2, 1), ((3, 4), (5, 6)), (7, 8), (18, 25, 1)),
            ((1, 2, 3), ((1, 1), (3, 0)), (0, -1), (1, 0, 1)), ((1, 2, 3), ((1, 1), (1, 0)), (0, 0), (3, 1, 3)),
            ((1, 2, 3, 5), STAYS[3], (1, 1, 1), (6, 7, 8, 5)), ((1, 2, 3, 1), ((0, 0, 1), (1, 0, 0), (0, 1, 0)), (0, 0, 0), (3, 1, 2, 1)),
        ]:
            self.assertEqual(self.told(spot, table, shift), found, (spot, table, shift))

    def test_a_table_that_leaves_all_as_it_is(self):
        throw = dice(110)
        for directions in (1, 2, 3):
            for turn in range(10):
                spot = some_spot(throw, directions, 10000, 60)
                self.assertEqual(self.told(spot, STAYS[directions], (0,) * directions), spot)

    def test_a_table_that_exchanges_directions(self):
        for order in itertools.permutations(range(3)):
            table = tuple(STAYS[3][at] for at in order)
            self.assertEqual(self.told((5, 7, 9, 2), table, (0, 0, 0)), (*[(5, 7, 9)[at] for at in order], 2))

    def test_tables_of_noughts_and_of_one_row_twice(self):
        throw = dice(111)
        for directions in (1, 2, 3):
            for turn in range(5):
                spot, shift = some_spot(throw, directions, 99, 60), some_shift(throw, directions)
                self.assertEqual(self.told(spot, NOUGHTS[directions], shift), (*shift, 1))
        for table in FLAT:
            self.told(some_spot(throw, len(table), 99, 60), table, some_shift(throw, len(table)))

    def test_the_greatest_numbers(self):
        throw = dice(112)
        for table in GREATEST:
            many = len(table)
            for side in (1, -1):
                self.told(some_spot(throw, many, 10000, 60), table, (side * 1000000,) * many)
                self.told(lowest((HUGE,) * many, HUGE - 1), table, (side * 1000000,) * many)

    def test_by_chance(self):
        throw = dice(113)
        for directions in (1, 2, 3):
            for turn in range(40):
                self.told(some_spot(throw, directions, 50, 12), some_table(throw, directions), some_shift(throw, directions))

    def test_points(self):
        throw = dice(114)
        for directions in (1, 2, 3):
            for many in (0, 1, 2, 40):
                points = some_points(throw, directions, many, 100, 60)
                table, shift = some_table(throw, directions), some_shift(throw, directions)
                found = ask(led_points, points, table, shift)
                self.assertIs(type(found), list)
                self.assertEqual(found, [told(led_places(point, table, shift)) for point in points])

    def test_points_that_are_led_off(self):
        found = led_points([(10000, 1), (1, 60)], ((1000,),), (1000000,))
        self.assertEqual(found, [(11000000, 1), (3000050, 3)])
        self.assertIs(is_points(found), False)

    def test_the_list_is_the_askers_own(self):
        points = [(1, 1), (2, 1)]
        found = led_points(points, ((1,),), (0,))
        self.assertEqual(found, points)
        found.append((3, 1))
        self.assertEqual(points, [(1, 1), (2, 1)])
        self.assertEqual(led_points(points, ((1,),), (0,)), [(1, 1), (2, 1)])
        points[0] = (7, 1)
        self.assertEqual(found, [(1, 1), (2, 1), (3, 1)])

    def test_by_names_in_any_order(self):
        self.assertEqual(led_spot(shift=(5,), table=((2,),), spot=(3, 1)), (11, 1))
        self.assertEqual(led_points(table=((2,),), shift=(5,), points=[(3, 1)]), [(11, 1)])


class LedPapers(unittest.TestCase):
    def tables(self, throw, directions):
        yield from [STAYS[directions], NOUGHTS[directions], flipped(STAYS[directions])]
        yield from [table for table in FLAT + GREATEST if len(table) == directions]
        for turn in range(6):
            yield some_table(throw, directions)

    def test_shared(self):
        throw = dice(115)
        seen = 0
        for directions in (1, 2, 3):
            for turn in range(4):
                points = some_points(throw, directions, 9, 9, 4)
                groups = some_groups(throw, 9, 3, 9)
                word, paper = sharing(points, groups)
                if word == "shared":
                    seen += 1
                    for table in self.tables(throw, directions):
                        shift = some_shift(throw, directions, 1000000)
                        found = ask(led_shared, paper, table, shift)
                        self.assertTrue(is_row(found, 2))
                        self.assertEqual(found, (told(led_places(paper[0], table, shift)), paper[1]))
                        led = led_points(points, table, shift)
                        self.assertTrue(shared_ok(led, groups, found))
                        self.assertIs(shared_holds(led, groups, found), True)
        self.assertGreater(seen, 4)

    def test_heaps(self):
        throw = dice(116)
        for directions in (1, 2, 3):
            for many in (1, 2, 3):
                points = some_points(throw, directions, 9, 9, 4)
                paper = heaps(points, many)
                for table in self.tables(throw, directions):
                    shift = some_shift(throw, directions, 1000000)
                    found = ask(led_heaps, paper, table, shift)
                    self.assertTrue(is_row(found, 3))
                    self.assertEqual(found, (paper[0], told(led_places(paper[1], table, shift)), paper[2]))
                    led = led_points(points, table, shift)
                    self.assertTrue(heaps_ok(led, many, found))
                    self.assertIs(heaps_hold(led, many, found), True)

    def test_by_names_in_any_order(self):
        paper = ((3, 1), (((0, 1),), ((1, 1),)))
        self.assertEqual(led_shared(shift=(1,), paper=paper, table=((2,),)), ((7, 1), paper[1]))
        paper = (((0,), (1,)), (3, 1), (((0, 1),), ((1, 1),)))
        self.assertEqual(led_heaps(table=((2,),), shift=(1,), paper=paper), (paper[0], (7, 1), paper[2]))


class WallLed(unittest.TestCase):
    def sign(self, wall, spot):
        number = sum_at(wall[0], spot) - wall[1]
        return (number > 0) - (number < 0)

    def told(self, wall, table, shift, spots=()):
        """The wall, once its sums at led spots are held against those at the spots."""
        found = ask(wall_led, wall, table, shift)
        self.assertTrue(is_row(found, 2) and is_row_of_wholes(found[0], len(wall[0])) and is_whole(found[1]))
        self.assertTrue(any(found[0]))
        for spot in [*spots, *self.spots_of(wall)]:
            led = told(led_places(spot, table, shift))
            self.assertEqual(self.sign(found, led), self.sign(wall, spot), (wall, table, shift, spot, found))
        return found

    def spots_of(self, wall):
        """Spots at the wall, and a hair before and beyond it, along and across."""
        row, t = wall
        square = sum(n * n for n in row)
        foot = [Fraction(t * n, square) for n in row]
        others = [[0] * len(row)] + [[0] * k + [1] + [0] * (len(row) - k - 1) for k in range(len(row))]
        for other in others:
            # What of the other lies along the row is taken away, so that it leads along the wall.
            along = Fraction(sum(a * b for a, b in zip(row, other)), square)
            for far in (1, -1, 1000):
                at = [f + far * (o - along * n) for f, o, n in zip(foot, other, row)]
                for hair in (Fraction(0), Fraction(1, 10 ** 9), Fraction(-1, 10 ** 9), Fraction(50), Fraction(-50)):
                    yield told([place + hair * n for place, n in zip(at, row)])

    def test_by_hand(self):
        spots = [(n, 1) for n in range(-9, 10)]
        for wall in [((1,), 3), ((-1,), 3), ((5,), -7), ((-2,), 0)]:
            for table in [((1,),), ((-1,),), ((3,),), ((-1000,),)]:
                for shift in [(0,), (4,), (-1000000,)]:
                    self.told(wall, table, shift, spots)

    def test_tables_that_leave_all_and_that_exchange(self):
        grid = [(a, b, 2) if a % 2 or b % 2 else (a // 2, b // 2, 1) for a in range(-4, 5) for b in range(-4, 5)]
        for wall in [((1, 0), 1), ((0, 1), 0), ((2, -3), 1), ((-1, -1), -1)]:
            for table in [STAYS[2], STAYS[2][::-1], ((-1, 0), (0, 1)), ((0, -1), (1, 0)), ((1, 1), (0, 1)), ((2, 1), (1, 1))]:
                for shift in [(0, 0), (1, -2), (1000000, -1000000)]:
                    self.told(wall, table, shift, grid)
        for order in itertools.permutations(range(3)):
            table = tuple(STAYS[3][at] for at in order)
            self.told(((1, 2, 3), 4), table, (0, 0, 0), [(1, 0, 1, 1), (4, 0, 0, 1), (0, 2, 0, 1), (0, 0, 1, 1)])

    def test_the_greatest_numbers(self):
        throw = dice(117)
        for table in GREATEST:
            many = len(table)
            for side in (1, -1):
                for turn in range(3):
                    row = (*some_shift(throw, many - 1, 10000), 1)
                    self.told((row, throw.randint(-9, 9)), table, (side * 1000000,) * many, some_points(throw, many, 5, 9, 3))
            self.told(((HUGE,) * many, -HUGE), table, (0,) * many)

    def test_by_chance(self):
        throw = dice(118)
        turned = set()
        for directions in (1, 2, 3):
            for turn in range(40):
                table, shift = some_table(throw, directions), some_shift(throw, directions)
                row = some_shift(throw, directions)
                if any(row):
                    if is_flat(table):
                        self.refused((row, 1), table, shift)
                    else:
                        self.told((row, throw.randint(-20, 20)), table, shift, some_points(throw, directions, 10, 9, 3))
                        turned.add(directions)
        self.assertEqual(turned, {1, 2, 3})

    def refused(self, wall, table, shift):
        with self.assertRaises(HeapsError) as caught:
            wall_led(wall, table, shift)
        self.assertIs(type(caught.exception), Flat, (wall, table, shift))
        self.assertIsInstance(caught.exception, ValueError)
        with self.assertRaises(Flat):
            wall_led(shift=shift, table=table, wall=wall)

    def test_flat(self):
        for table in [*FLAT, *[flipped(table) for table in FLAT]]:
            self.assertTrue(is_flat(table))
            many = len(table)
            for row in itertools.product((-1, 0, 2), repeat=many):
                if any(row):
                    self.refused((row, 3), table, (0,) * many)
                    self.refused((row, -1), table, (1, -1000000, 7)[:many])

    def test_a_hair_beside_flat(self):
        for table in [((1,),), ((1000, 999), (999, 998)), ((1, 2, 3), (4, 5, 6), (7, 8, 10)), ((1000, 999, 1), (999, 998, 1), (1, 1, 1))]:
            self.assertFalse(is_flat(table))
            self.told(((1, 2, -3)[:len(table)], 5), table, (0, 7, 9)[:len(table)])

    def test_walls_before_points_are_walls_before_points_led(self):
        throw = dice(119)
        seen = 0
        for directions in (1, 2, 3):
            for turn in range(20):
                points = some_points(throw, directions, 4, 5, 3)
                spot = some_spot(throw, directions, 9, 3)
                table, shift = some_table(throw, directions), some_shift(throw, directions)
                word, wall = place(points, spot)
                if word == "without" and not is_flat(table):
                    seen += 1
                    found = self.told(wall, table, shift)
                    led, goal = led_points(points, table, shift), led_spot(spot, table, shift)
                    self.assertTrue(without_ok(led, goal, found))
                    self.assertIs(without_holds(led, goal, found), True)
        self.assertGreater(seen, 20)

    def test_by_names_in_any_order(self):
        self.assertEqual(self.sign(wall_led(shift=(1,), wall=((1,), 3), table=((2,),)), (7, 1)), 0)
        self.assertEqual(self.sign(wall_led(table=((1,),), shift=(0,), wall=((1,), 3)), (4, 1)), 1)


if __name__ == "__main__":
    unittest.main()
