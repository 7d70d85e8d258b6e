"""Promise 10: papers of shared groups and of groups apart, looked through; and of 2 and 3 what they touch."""

import unittest
from math import ceil

from heapsmeet.groups import apart_holds, shared_holds
from tests.support import (
    HUGE, apart_ok, ask, changed, dice, lowest, odd_things, shared_ok, some_groups, some_points, some_spot,
    sum_at, twisted,
)

LINE = [(0, 1), (4, 1), (2, 1), (6, 1), (9, 2), (5, 1)]
SQUARE = [(0, 0, 1), (4, 0, 1), (4, 4, 1), (0, 4, 1), (2, 2, 1), (9, 9, 1)]
CUBE = [(a, b, c, 1) for a in (0, 2) for b in (0, 2) for c in (0, 2)]
HALVES = [(1, 2), (1, 3), (5, 12), (2, 3), (1, 1)]

SHARED = [
    (LINE, [(0,)], ((0, 1), (((0, 1),),))),
    (LINE, [(0, 1)], ((2, 1), (((0, 7), (1, 7)),))),
    (LINE, [(0, 1), (2, 3)], ((3, 1), (((0, 1), (1, 3)), ((2, 3), (3, 1))))),
    (LINE, [(0, 1), (2, 3)], ((4, 1), (((1, 1),), ((2, 2), (3, 2))))),
    (LINE, [(0, 1), (2, 3)], ((2, 1), (((0, HUGE), (1, HUGE)), ((2, 1),)))),
    (LINE, [(0, 1, 2), (0, 1, 2), (2,)], ((2, 1), (((0, 1), (1, 1), (2, 9)), ((2, 4),), ((2, 1),)))),
    (LINE, [(1, 2), (1,), (0, 3)], ((4, 1), (((1, 1),), ((1, 1),), ((0, 1), (3, 2))))),
    (HALVES, [(0, 1), (2,)], ((5, 12), (((0, 1), (1, 1)), ((2, 3),)))),
    (HALVES, [(0, 1), (1, 3), (1, 4)], ((1, 2), (((0, 1),), ((1, 1), (3, 1)), ((1, 3), (4, 1))))),
    (SQUARE, [(0, 2), (1, 3)], ((2, 2, 1), (((0, 1), (2, 1)), ((1, 1), (3, 1))))),
    (SQUARE, [(0, 1), (1, 2)], ((4, 0, 1), (((1, 1),), ((1, 1),)))),
    (SQUARE, [(0, 1, 2, 3), (4,)], ((2, 2, 1), (((0, 1), (1, 1), (2, 1), (3, 1)), ((4, 1),)))),
    (SQUARE, [(0, 2, 3), (0, 1, 2), (0, 5)], ((1, 1, 1), (((0, 3), (2, 1)), ((0, 3), (2, 1)), ((0, 8), (5, 1))))),
    (CUBE, [(0, 7), (1, 6), (2, 5), (3, 4)], ((1, 1, 1, 1), tuple(((k, 1), (7 - k, 1)) for k in range(4)))),
    (CUBE, [(0, 3, 5, 6), (1, 6)], ((1, 1, 1, 1), (tuple((k, 1) for k in (0, 3, 5, 6)), ((1, 2), (6, 2))))),
    (CUBE, [(0, 1), (0, 2), (0, 4)], ((0, 0, 0, 1), (((0, 1),), ((0, 2),), ((0, 3),)))),
    ([(3, 1)] * 4, [(0,), (1, 2), (3,)], ((3, 1), (((0, 1),), ((1, 5), (2, 6)), ((3, 1),)))),
    ([(1, 1, 1, 60)] * 3, [(0, 1), (1, 2)], ((1, 1, 1, 60), (((0, 1),), ((2, 1),)))),
]

APART = [
    (LINE, [(0, 1), (3, 5)], (((1,), 4), ((-1,), -5))),
    (LINE, [(0, 1), (3, 5)], (((2,), 9), ((-2,), -10))),
    (LINE, [(0, 1), (3, 5)], (((HUGE,), 4 * HUGE), ((-HUGE,), -5 * HUGE))),
    (LINE, [(3, 5), (0, 1)], (((-1,), -5), ((1,), 4))),
    (LINE, [(0, 2), (1, 3)], (((1,), 3), ((-1,), -4))),
    (LINE, [(0, 1), (0, 1, 2, 3), (4, 5)], (((2,), 8), ((0,), 0), ((-2,), -9))),
    (LINE, [(0,), (4,)], (((2,), 0), ((-2,), -9))),
    (LINE, [(0,), (1,), (2,)], (((1,), 0), ((-3,), -12), ((2,), 4))),
    (HALVES, [(0,), (1, 2)], (((-12,), -6), ((12,), 5))),
    (SQUARE, [(0, 1), (2, 3)], (((0, 1), 0), ((0, -1), -4))),
    (SQUARE, [(0, 1, 2, 3), (5,)], (((1, 1), 8), ((-1, -1), -18))),
    (SQUARE, [(0, 1), (1, 2), (0, 3)], (((0, 1), 0), ((-2, -1), -8), ((2, 0), 0))),
    (SQUARE, [(0, 1), (1, 2), (2, 3), (0, 3)], (((0, 1), 0), ((-1, 0), -4), ((0, -1), -4), ((1, 0), 0))),
    (SQUARE, [(0,), (4,)], (((1, 1), 0), ((-1, -1), -4))),
    (CUBE, [(0, 1, 2, 3), (4, 5, 6, 7)], (((1, 0, 0), 0), ((-1, 0, 0), -2))),
    (CUBE, [(0,), (7,), (1,)], (((1, 1, 1), 0), ((-1, -1, -1), -6), ((0, 0, 0), 0))),
    ([(1, 1, 1, 60), (1, 1, 1, 59)], [(0,), (1,)], (((3540, 0, 0), 59), ((-3540, 0, 0), -60))),
]


class SharedHolds(unittest.TestCase):
    def no(self, points, groups, thing):
        self.assertIs(ask(shared_holds, points, groups, thing), False, (points, groups, thing))

    def test_papers_that_hold(self):
        for points, groups, paper in SHARED:
            self.assertTrue(shared_ok(points, groups, paper), (points, groups, paper))
            self.assertIs(ask(shared_holds, points, groups, paper), True, (points, groups, paper))

    def test_another_spot(self):
        for points, groups, (spot, rows) in SHARED:
            for at in range(len(spot) - 1):
                for step in (1, -1):
                    beside = list(spot[:-1])
                    beside[at] += step
                    self.no(points, groups, (lowest(beside, spot[-1]), rows))
            self.no(points, groups, (lowest([HUGE * n + 1 for n in spot[:-1]], HUGE * spot[-1]), rows))
            if any(spot[:-1]):
                self.no(points, groups, (lowest(spot[:-1], spot[-1] + 1), rows))

    def test_a_spot_that_is_none(self):
        for points, groups, (spot, rows) in SHARED:
            self.no(points, groups, (tuple(2 * n for n in spot), rows))
            self.no(points, groups, (tuple(HUGE * n for n in spot), rows))
            self.no(points, groups, (tuple(-n for n in spot), rows))
            self.no(points, groups, (spot[:-1], rows))
            self.no(points, groups, ((*spot, 1), rows))
            self.no(points, groups, ((0, *spot), rows))
            self.no(points, groups, (list(spot), rows))
            self.no(points, groups, ((*spot[:-1], 0), rows))

    def test_truths_in_numbers_places(self):
        ones, noughts = [(1, 1), (1, 1)], [(0, 1), (0, 1)]
        groups = [(0,), (1,)]
        rows = (((0, 1),), ((1, 1),))
        self.assertIs(shared_holds(ones, groups, ((1, 1), rows)), True)
        for spot in [(True, 1), (1, True), (True, True)]:
            self.no(ones, groups, (spot, rows))
        self.assertIs(shared_holds(noughts, groups, ((0, 1), rows)), True)
        self.no(noughts, groups, ((False, 1), rows))
        for wrong in [(((0, True),), ((1, 1),)), (((False, 1),), ((1, 1),)), (((0, 1),), ((True, 1),))]:
            self.no(ones, groups, ((1, 1), wrong))

    def test_a_number_changed_by_one(self):
        points, groups = LINE, [(0, 1), (2, 3)]
        self.assertIs(shared_holds(points, groups, ((3, 1), (((0, 1), (1, 3)), ((2, 3), (3, 1))))), True)
        for rows in [
            (((0, 2), (1, 3)), ((2, 3), (3, 1))), (((0, 1), (1, 4)), ((2, 3), (3, 1))), (((0, 1), (1, 2)), ((2, 3), (3, 1))),
            (((0, 1), (1, 3)), ((2, 4), (3, 1))), (((0, 1), (1, 3)), ((2, 3), (3, 2))), (((0, 1), (1, 3)), ((2, 2), (3, 1))),
            (((0, 1), (2, 3)), ((2, 3), (3, 1))), (((0, 1), (1, 3)), ((1, 3), (3, 1))),
        ]:
            self.no(points, groups, ((3, 1), rows))

    def test_a_share_of_nought_or_below(self):
        points, groups = [(0, 1)] * 4, [(0, 1), (2, 3)]
        self.assertIs(shared_holds(points, groups, ((0, 1), (((0, 1), (1, 1)), ((2, 1), (3, 1))))), True)
        for bad in (0, -1, -HUGE):
            for rows in [
                (((0, 1), (1, bad)), ((2, 1),)), (((0, bad), (1, 2 * HUGE)), ((2, 1),)), (((0, 1),), ((2, 1), (3, bad))),
                (((0, 1),), ((2, bad),)), (((0, bad),), ((2, 1),)),
            ]:
                self.no(points, groups, ((0, 1), rows))

    def test_a_point_of_another_group(self):
        points, groups = [(0, 1)] * 5, [(0, 1), (1, 2), (3,)]
        for first in range(5):
            for second in range(5):
                for third in range(5):
                    paper = ((0, 1), (((first, 1),), ((second, 1),), ((third, 1),)))
                    right = first in (0, 1) and second in (1, 2) and third == 3
                    self.assertIs(ask(shared_holds, points, groups, paper), right, paper)
        self.no(points, groups, ((0, 1), (((0, 1), (2, 1)), ((1, 1),), ((3, 1),))))
        self.no(points, groups, ((0, 1), (((0, 1), (4, 1)), ((1, 1),), ((3, 1),))))
        self.no(points, groups, ((0, 1), (((-5, 1),), ((1, 1),), ((3, 1),))))
        self.no(points, groups, ((0, 1), (((0, 1), (5, 1)), ((1, 1),), ((3, 1),))))

    def test_rows_turned_about_twice_or_left_out(self):
        points, groups = SQUARE, [(0, 2), (1, 3)]
        spot, (one, other) = (2, 2, 1), (((0, 1), (2, 1)), ((1, 1), (3, 1)))
        self.assertIs(shared_holds(points, groups, (spot, (one, other))), True)
        for rows in [
            (other, one), (one, one), (other, other), (one,), (other,), (), (one, other, other), (one, other, one),
            (one, one, other), (one, ()), ((), other), [one, other], (list(one), other), (one, [(1, 1), (3, 1)]),
            ((one[1], one[0]), other), ((one[0], one[0], one[1]), other), ((one,), other), (one, ((1, 1), [3, 1])),
        ]:
            self.no(points, groups, (spot, rows))
        for paper in [
            (spot,), (spot, (one, other), ()), ((one, other), spot), [spot, (one, other)], (spot, one, other), ((spot, (one, other)),),
        ]:
            self.no(points, groups, paper)

    def test_each_group_has_to_meet_the_spot(self):
        points, groups = LINE, [(0, 1), (2, 3), (0, 3)]
        right = (((0, 1), (1, 3)), ((2, 3), (3, 1)), ((0, 1), (3, 1)))
        self.assertIs(shared_holds(points, groups, ((3, 1), right)), True)
        for at, beside in enumerate([((0, 1), (1, 1)), ((2, 1), (3, 1)), ((0, 1), (3, 2))]):
            rows = list(right)
            rows[at] = beside
            self.no(points, groups, ((3, 1), tuple(rows)))

    def test_a_part_of_another_kind(self):
        for points, groups, paper in SHARED:
            for thing in twisted(paper):
                self.no(points, groups, thing)

    def test_a_little_changed(self):
        for points, groups, paper in SHARED:
            for thing in changed(paper):
                self.assertIs(ask(shared_holds, points, groups, thing), shared_ok(points, groups, thing), thing)

    def test_whatever(self):
        for points, groups, (spot, rows) in (SHARED[2], SHARED[5], SHARED[9], SHARED[-1]):
            for thing in odd_things():
                self.no(points, groups, thing)
                self.no(points, groups, (spot, thing))
                self.no(points, groups, (thing, rows))
                self.no(points, groups, (spot, (thing, *rows[1:])))
                self.no(points, groups, (spot, (thing,) * len(rows)))
                self.no(points, groups, (spot, (*rows[:-1], (*rows[-1], thing))))
        points, groups, (spot, rows) = SHARED[0]
        for thing in odd_things():
            self.no(points, groups, thing)
            for paper in ((spot, thing), (spot, (thing,)), (thing, rows), (spot, ((thing,),))):
                self.assertIs(ask(shared_holds, points, groups, paper), shared_ok(points, groups, paper), paper)

    def test_papers_apart_are_no_papers_of_a_shared_spot(self):
        for points, groups, paper in APART:
            self.no(points, groups, paper)
            self.no(points, groups, ("apart", paper))
        for points, groups, paper in SHARED:
            self.no(points, groups, ("shared", paper))

    def test_by_chance(self):
        throw = dice(10)
        seen = {True: 0, False: 0}
        for turn in range(1500):
            directions = throw.randint(1, 3)
            points = some_points(throw, directions, 4, 1, 1)
            groups = some_groups(throw, 4, throw.randint(1, 3))
            rows = tuple(
                tuple((k, throw.randint(1, 2)) for k in sorted(throw.sample(range(4), throw.randint(1, 2))))
                for group in groups
            )
            thing = (some_spot(throw, directions, 1, 2), rows)
            right = shared_ok(points, groups, thing)
            seen[right] += 1
            self.assertIs(shared_holds(points, groups, thing), right)
        self.assertGreater(seen[True], 15)

    def test_by_names_in_any_order(self):
        points, groups, paper = SHARED[2]
        self.assertIs(shared_holds(points=points, groups=groups, thing=paper), True)
        self.assertIs(shared_holds(thing=paper, groups=groups[::-1], points=points), False)


class ApartHolds(unittest.TestCase):
    def no(self, points, groups, thing):
        self.assertIs(ask(apart_holds, points, groups, thing), False, (points, groups, thing))

    def test_papers_that_hold(self):
        for points, groups, paper in APART:
            self.assertTrue(apart_ok(points, groups, paper), (points, groups, paper))
            self.assertIs(ask(apart_holds, points, groups, paper), True, (points, groups, paper))

    def test_rows_that_are_not_together_nought(self):
        for points, groups, paper in APART:
            directions = len(points[0]) - 1
            for at in range(len(paper)):
                for step in (1, -1, HUGE):
                    for direction in range(directions):
                        row, t = paper[at]
                        moved = tuple(n + step if k == direction else n for k, n in enumerate(row))
                        self.no(points, groups, (*paper[:at], (moved, t), *paper[at + 1:]))
        # Here nothing else is wrong: all points lie behind, and the t's come to less than 0.
        points = [(-5, -5, 1), (-3, -7, 1)]
        self.no(points, [(0,), (1,)], (((1, 1), -9), ((1, 1), -9)))
        self.no(points, [(0,), (1,)], (((1, 0), -5), ((-1, 1), -4)))
        self.no(points, [(0,), (1,)], (((0, 1), -5), ((1, -1), 4)))
        self.no([(-5, 1)], [(0,)], (((1,), -5),))

    def test_ts_that_are_together_nought_or_above(self):
        points, groups = LINE, [(0, 1), (3, 5)]
        for t, other in [(4, -4), (5, -5), (4, -3), (100, 100), (5, -4), (HUGE, -HUGE), (HUGE + 1, -HUGE)]:
            self.no(points, groups, (((1,), t), ((-1,), other)))
        touching = [(0, 1), (1, 3)]
        for t, other in [(4, -4), (3, -4), (4, -5), (5, -4), (0, -1)]:
            self.no(points, touching, (((1,), t), ((-1,), other)))

    def test_a_sum_above_t(self):
        points, groups = SQUARE, [(0, 1), (2, 3)]
        self.assertIs(apart_holds(points, groups, (((0, 1), 0), ((0, -1), -4))), True)
        for one, other in [(-1, -4), (0, -5), (-2, -2), (-HUGE, HUGE - 1), (4, -HUGE)]:
            self.no(points, groups, (((0, 1), one), ((0, -1), other)))
        # Just one of the group's points, the first or the last, lies beyond.
        self.no([(0, 1), (5, 1), (9, 1)], [(0, 1), (2,)], (((1,), 4), ((-1,), -9)))
        self.no([(5, 1), (0, 1), (9, 1)], [(0, 1), (2,)], (((1,), 4), ((-1,), -9)))
        self.no([(0, 1), (9, 1), (5, 1)], [(0,), (1, 2)], (((1,), 0), ((-1,), -9)))

    def test_bottoms_count(self):
        points, groups = [(1, 3), (1, 2)], [(0,), (1,)]
        self.assertIs(apart_holds(points, groups, (((6,), 2), ((-6,), -3))), True)
        self.no(points, groups, (((6,), 1), ((-6,), -3)))
        self.no(points, groups, (((6,), 2), ((-6,), -4)))
        self.no(points, groups, (((1,), 1), ((-1,), -1)))
        self.no(points, groups, (((1,), 0), ((-1,), -1)))
        self.no(points, groups, (((2,), 0), ((-2,), -1)))

    def test_points_of_no_group_do_not_count(self):
        self.assertIs(ask(apart_holds, [(0, 1), (9, 1), (5, 1)], [(0,), (2,)], (((1,), 0), ((-1,), -5))), True)

    def test_one_group_is_never_apart(self):
        for paper in [(((0,), -1),), (((0,), 0),), (((1,), -1),), (((0,), 5),), (((-1,), -HUGE),)]:
            self.no(LINE, [(0, 1)], paper)
            self.no([(-3, 1)], [(0,)], paper)

    def test_noughts_alone(self):
        for points in (LINE, SQUARE, CUBE):
            noughts = (0,) * (len(points[0]) - 1)
            for t, other in [(0, -1), (-1, 0), (-1, -1), (0, 0), (1, -2)]:
                self.no(points, [(0,), (1,)], ((noughts, t), (noughts, other)))

    def test_rows_turned_about_twice_or_left_out(self):
        points, groups = LINE, [(0, 1), (0, 1, 2, 3), (4, 5)]
        one, two, three = ((2,), 8), ((0,), 0), ((-2,), -9)
        self.assertIs(apart_holds(points, groups, (one, two, three)), True)
        for paper in [
            (three, two, one), (two, one, three), (one, three, two), (one, one, three), (one, two), (one, three), (two, three),
            (one,), (), (one, two, three, two), (one, two, two, three), [one, two, three], (list(one), two, three),
            (one, two, [(-2,), -9]), (([2], 8), two, three), ((one, two, three),), (one, (two,), three), (one, (), three),
            (one, ((0,), 0, 0), three), (one, ((0,),), three), (((8,), 2), two, three), ((8, (2,)), two, three),
            (one, ((0, 0), 0), three), (one, ((), 0), three), ((2, 8), (0, 0), (-2, -9)),
        ]:
            self.no(points, groups, paper)

    def test_rows_of_other_directions(self):
        for points, groups, paper in APART:
            self.no(points, groups, tuple((row[:-1], t) for row, t in paper))
            self.no(points, groups, tuple(((*row, 0), t) for row, t in paper))
            self.no(points, groups, (((*paper[0][0], 0), paper[0][1]), *paper[1:]))
            self.no(points, groups, (*paper[:-1], ((*paper[-1][0], 0), paper[-1][1])))

    def test_truths_in_numbers_places(self):
        points, groups = [(0, 1), (2, 1)], [(0,), (1,)]
        self.assertIs(apart_holds(points, groups, (((1,), 1), ((-1,), -2))), True)
        self.no(points, groups, (((True,), 1), ((-1,), -2)))
        self.no(points, groups, (((1,), True), ((-1,), -2)))
        self.assertIs(apart_holds(points, groups, (((1,), 0), ((-1,), -2))), True)
        self.no(points, groups, (((1,), False), ((-1,), -2)))
        self.no([(0, 0, 1), (2, 2, 1)], groups, (((1, False), 0), ((-1, 0), -2)))

    def test_a_part_of_another_kind(self):
        for points, groups, paper in APART:
            for thing in twisted(paper):
                self.no(points, groups, thing)

    def test_a_little_changed(self):
        for points, groups, paper in APART:
            for thing in changed(paper):
                self.assertIs(ask(apart_holds, points, groups, thing), apart_ok(points, groups, thing), thing)

    def test_whatever(self):
        for points, groups, paper in (APART[0], APART[7], APART[9], APART[-1]):
            for thing in odd_things():
                self.no(points, groups, thing)
                self.no(points, groups, (thing,) * len(groups))
                self.no(points, groups, (thing, *paper[1:]))
                self.no(points, groups, (*paper[:-1], thing))
                self.no(points, groups, (*paper[:-1], (thing, paper[-1][1])))
                if type(thing) is not int:
                    self.no(points, groups, (*paper[:-1], (paper[-1][0], thing)))

    def test_papers_of_a_shared_spot_are_no_papers_apart(self):
        for points, groups, paper in SHARED:
            self.no(points, groups, paper)
            self.no(points, groups, paper[1])
        for points, groups, paper in APART:
            self.no(points, groups, ("apart", paper))

    def test_by_chance(self):
        throw = dice(101)
        seen = {True: 0, False: 0}
        for turn in range(2500):
            directions = throw.randint(1, 3)
            points = some_points(throw, directions, 4, 3, 2)
            groups = some_groups(throw, 4, throw.randint(2, 3), 2)
            rows = [tuple(throw.randint(-1, 1) for k in range(directions)) for group in groups[1:]]
            left = tuple(-sum(column) for column in zip(*rows))
            thing = tuple(
                (row, ceil(max(sum_at(row, points[k]) for k in group)) + throw.choice((-1, 0, 0, 0, 1)))
                for group, row in zip(groups, (left, *rows))
            )
            right = apart_ok(points, groups, thing)
            seen[right] += 1
            self.assertIs(apart_holds(points, groups, thing), right)
        self.assertGreater(seen[True], 100)

    def test_by_names_in_any_order(self):
        points, groups, paper = APART[0]
        self.assertIs(apart_holds(points=points, groups=groups, thing=paper), True)
        self.assertIs(apart_holds(thing=paper, groups=groups[::-1], points=points), False)


if __name__ == "__main__":
    unittest.main()
