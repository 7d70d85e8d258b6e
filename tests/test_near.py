"""Promises 7 and 8: arrows mixed, papers of a nearest mix; and of 2 and 3 what they touch."""

import itertools
import unittest
from fractions import Fraction

from heapsmeet.arrows import mix_of, near_holds
from heapsmeet.near import nearest
from tests.support import (
    HUGE, alike, ask, changed, dice, mix_places, near_ok, odd_things, shares_ok, some_arrows,
    some_shares, told, twisted,
)

# Arrows, and their nearest mix, which is one alone.
KNOWN = [
    ([(5,)], (5, 1)), ([(-5,)], (-5, 1)), ([(0,)], (0, 1)), ([(3,), (7,)], (3, 1)), ([(-3,), (-7,)], (-3, 1)),
    ([(3,), (-7,)], (0, 1)), ([(1,), (-1,)], (0, 1)), ([(1,), (0,), (-1,)], (0, 1)), ([(2,), (2,), (2,)], (2, 1)),
    ([(3, 4)], (3, 4, 1)), ([(2, 0), (0, 2)], (1, 1, 1)), ([(1, 0), (0, 1)], (1, 1, 2)),
    ([(1, 1), (1, 2), (1, -3)], (1, 0, 1)), ([(1, 1), (1, 2), (1, 5)], (1, 1, 1)),
    ([(3, -1), (3, 2), (5, 0), (7, 9)], (3, 0, 1)), ([(2, 4), (-2, -4)], (0, 0, 1)),
    ([(0, 3), (4, 0)], (36, 48, 25)), ([(0, 3), (4, 0), (9, 9)], (36, 48, 25)),
    ([(1, 0), (-1, 1), (-1, -1)], (0, 0, 1)), ([(0, 0), (5, 5)], (0, 0, 1)), ([(7, 7), (7, 7)], (7, 7, 1)),
    ([(1, 0, 0), (0, 1, 0), (0, 0, 1)], (1, 1, 1, 3)), ([(6, 0, 0), (0, 3, 0), (0, 0, 2)], (6, 12, 18, 14)),
    ([(1, 1, 1), (-1, -1, 1), (1, -1, 1), (-1, 1, 1)], (0, 0, 1, 1)),
    ([(5, 5, 1), (5, -5, 1), (-5, 0, 1), (0, 0, 9)], (0, 0, 1, 1)),
]
KNOWN = [(arrows, told([Fraction(n, mix[-1]) for n in mix[:-1]])) for arrows, mix in KNOWN]


class MixOf(unittest.TestCase):
    def holds(self, arrows, shares):
        mix = ask(mix_of, arrows, shares)
        self.assertTrue(alike(mix, told(mix_places([[Fraction(n) for n in a] for a in arrows], shares))))
        return mix

    def test_told_mixes(self):
        for arrows, shares, mix in [
            ([(4,)], ((0, 1),), (4, 1)), ([(4,)], ((0, 9),), (4, 1)), ([(0,)], ((0, 9),), (0, 1)),
            ([(1,), (2,)], ((0, 1), (1, 1)), (3, 2)), ([(1,), (2,)], ((0, 2), (1, 1)), (4, 3)),
            ([(1,), (2,)], ((0, 2), (1, 2)), (3, 2)), ([(1,), (2,)], ((1, 3),), (2, 1)),
            ([(1, 0), (0, 1)], ((0, 1), (1, 1)), (1, 1, 2)), ([(1, 0), (-1, 0)], ((0, 4), (1, 4)), (0, 0, 1)),
            ([(2, 4, 6), (0, 0, 0)], ((0, 1), (1, 1)), (1, 2, 3, 1)),
            ([(1,) * 20, (3,) * 20], ((0, 1), (1, 1)), (2,) * 20 + (1,)),
            ([(0,) * 20, tuple(range(20))], ((0, 1), (1, 2)), tuple(2 * k for k in range(20)) + (3,)),
        ]:
            self.assertTrue(alike(self.holds(arrows, shares), mix), (arrows, shares))

    def test_arrows_of_all_sizes(self):
        throw = dice(7)
        for size in range(1, 21):
            for many in (1, 2, 16):
                for reach in (2, 1000000):
                    arrows = some_arrows(throw, size, many, reach)
                    self.holds(arrows, some_shares(throw, many))
                    self.holds(arrows, some_shares(throw, many, HUGE))
                    self.holds(arrows, ((many - 1, 1),))
                    self.holds(arrows, tuple((k, 6) for k in range(many)))

    def test_beyond_the_limits(self):
        throw = dice(77)
        self.holds(some_arrows(throw, 21, 17, HUGE), some_shares(throw, 17, HUGE))
        self.holds(some_arrows(throw, 3, 400), some_shares(throw, 400))

    def test_by_names_in_any_order(self):
        self.assertEqual(mix_of(arrows=[(1,), (2,)], shares=((0, 1), (1, 1))), (3, 2))
        self.assertEqual(mix_of(shares=((0, 1), (1, 1)), arrows=[(1,), (2,)]), (3, 2))


class Nearest(unittest.TestCase):
    def told(self, arrows):
        """A told paper's mix; the paper is held against the words of the document."""
        paper = ask(nearest, arrows)
        self.assertTrue(shares_ok(len(arrows), paper), paper)
        self.assertTrue(near_ok(arrows, paper), (arrows, paper))
        self.assertIs(near_holds(arrows, paper), True)
        mix = mix_of(arrows, paper)
        most = len(arrows[0]) + (0 if any(mix[:-1]) else 1)
        self.assertLessEqual(len(paper), most, (arrows, paper))
        return mix

    def test_known_mixes(self):
        for arrows, mix in KNOWN:
            self.assertTrue(alike(self.told(arrows), mix), arrows)

    def test_known_mixes_in_any_order(self):
        for arrows, mix in KNOWN:
            for order in itertools.permutations(arrows):
                self.assertEqual(self.told(list(order)), mix)

    def test_known_mixes_scaled(self):
        for arrows, mix in KNOWN:
            for factor in (-1, 3, 1000):
                scaled = [tuple(factor * n for n in arrow) for arrow in arrows]
                expected = told([Fraction(factor * n, mix[-1]) for n in mix[:-1]])
                self.assertEqual(self.told(scaled), expected)

    def test_arrows_of_all_sizes(self):
        throw = dice(8)
        for size in range(1, 21):
            for many in (1, 2, size, size + 1, 16):
                for reach in (1, 3, 50, 1000000):
                    self.told(some_arrows(throw, size, min(many, 16), reach))

    def test_arrows_beside_nought(self):
        # All have a number from 1 on in some direction, so that no mix is nought.
        throw = dice(81)
        for size in (1, 2, 3, 4, 6, 9, 20):
            for turn in range(12):
                arrows = some_arrows(throw, size, throw.randint(2, 16), throw.choice((1, 2, 9, 1000)))
                at = throw.randrange(size)
                arrows = [(*a[:at], throw.randint(1, 3), *a[at + 1:]) for a in arrows]
                self.assertTrue(any(self.told(arrows)[:-1]))

    def test_many_small_ones(self):
        throw = dice(82)
        noughts = 0
        for turn in range(500):
            size = throw.randint(1, 4)
            arrows = some_arrows(throw, size, throw.randint(1, 9), throw.randint(1, 4))
            noughts += not any(self.told(arrows)[:-1])
        self.assertTrue(50 < noughts < 450)

    def test_all_arrows_of_a_small_plane(self):
        cells = list(itertools.product(range(-1, 3), repeat=2))
        for arrows in itertools.combinations(cells, 3):
            self.told(list(arrows))

    def test_no_mix_of_small_shares_is_nearer(self):
        throw = dice(83)
        for turn in range(60):
            size = throw.randint(1, 3)
            arrows = some_arrows(throw, size, 3, 4)
            mix = self.told(arrows)
            square = Fraction(sum(n * n for n in mix[:-1]), mix[-1] ** 2)
            for weights in itertools.product(range(5), repeat=3):
                if any(weights):
                    shares = tuple((k, s) for k, s in enumerate(weights) if s > 0)
                    other = mix_places([[Fraction(n) for n in a] for a in arrows], shares)
                    self.assertGreaterEqual(sum(place * place for place in other), square)

    def test_one_arrow(self):
        throw = dice(84)
        for size in range(1, 21):
            for reach in (0, 1, 1000000):
                arrow = some_arrows(throw, size, 1, reach)[0]
                self.assertEqual(self.told([arrow])[:-1], arrow)
                self.assertEqual(self.told([arrow] * 16)[:-1], arrow)

    def test_an_arrow_of_noughts_and_turned_arrows(self):
        throw = dice(85)
        for size in (1, 2, 3, 7, 20):
            arrows = some_arrows(throw, size, 8, 1000000)
            nought = (0,) * size
            for at in (0, 4, 8):
                self.assertEqual(self.told([*arrows[:at], nought, *arrows[at:]]), (*nought, 1))
            turned = tuple(-2 * n for n in arrows[3])
            self.assertEqual(self.told([*arrows, turned]), (*nought, 1))
            self.assertEqual(self.told([arrows[3], turned]), (*nought, 1))

    def test_arrows_on_one_line(self):
        throw = dice(86)
        for size in (1, 2, 3, 8, 20):
            start, way = some_arrows(throw, size, 2, 100)
            for steps in ([0, 1], [-3, 5], [1, 2, 3, 4], [-2, -1, 0, 1, 2], [7, 7, 7], [0] * 16):
                arrows = [tuple(a + step * b for a, b in zip(start, way)) for step in steps]
                self.told(arrows)
                self.told([tuple(step * b for b in way) for step in steps])

    def test_corners_of_a_cube_and_of_a_cross(self):
        for size in (1, 2, 3, 4):
            cube = list(itertools.product((-1, 1), repeat=size))
            self.assertEqual(self.told(cube), (0,) * size + (1,))
            beside = [(arrow[0] + 2, *arrow[1:]) for arrow in cube]
            self.assertEqual(self.told(beside), (1,) + (0,) * (size - 1) + (1,))
        for size in (1, 5, 8):
            cross = [tuple(s if k == at else 0 for k in range(size)) for at in range(size) for s in (1, -1)]
            self.assertEqual(self.told(cross), (0,) * size + (1,))
        steps = [tuple(20 if k == at else 0 for k in range(20)) for at in range(16)]
        self.assertEqual(self.told(steps), told([Fraction(20, 16)] * 16 + [Fraction(0)] * 4))

    def test_nought_by_all_of_as_many_and_one_more(self):
        for size in range(1, 16):
            arrows = [tuple(int(k == at) for k in range(size)) for at in range(size)] + [(-1,) * size]
            self.assertEqual(self.told(arrows), (0,) * size + (1,))
            self.assertEqual(len(nearest(arrows)), size + 1)

    def test_beyond_the_limits(self):
        throw = dice(87)
        self.told(some_arrows(throw, 21, 30, 2000000))
        self.told(some_arrows(throw, 20, 60, 10000))
        self.told(some_arrows(throw, 3, 400, HUGE))
        self.told([(1, *arrow) for arrow in some_arrows(throw, 7, 400, 50)])
        # Of no arrows there is no mix: what is told is free, but it is no error.
        nearest([])
        self.assertIs(near_holds([], ((0, 1),)), False)

    def test_what_is_done_behind_the_call(self):
        arrows = [(3,), (7,)]
        first = nearest(arrows)
        arrows[0] = (9,)
        self.assertEqual(mix_of([(3,), (7,)], first), (3, 1))
        self.assertEqual(mix_of(arrows, nearest(arrows)), (7, 1))

    def test_by_name(self):
        self.assertEqual(mix_of([(3,), (7,)], nearest(arrows=[(3,), (7,)])), (3, 1))


class NearHolds(unittest.TestCase):
    def test_papers_that_hold(self):
        for arrows, paper in [
            ([(5,)], ((0, 1),)), ([(5,)], ((0, HUGE),)), ([(3,), (7,)], ((0, 4),)), ([(0,), (4,)], ((0, 1),)),
            ([(1,), (-1,)], ((0, 1), (1, 1))), ([(1,), (-2,)], ((0, 2), (1, 1))), ([(1,), (-2,)], ((0, 20), (1, 10))),
            ([(2,), (2,), (2,)], ((1, 7),)), ([(2,), (2,), (2,)], ((0, 1), (1, 2), (2, 3))),
            ([(1,), (-1,), (2,), (-2,)], ((0, 1), (1, 1), (2, 1), (3, 1))),
            ([(2, 0), (0, 2)], ((0, 3), (1, 3))), ([(2, 0), (0, 2), (1, 1)], ((0, 1), (1, 1), (2, 9))),
            ([(2, 0), (0, 2), (1, 1)], ((2, 1),)), ([(2, 0), (0, 2), (1, 1)], ((0, 1), (1, 1))),
            ([(0, 3), (4, 0)], ((0, 16), (1, 9))), ([(1,) * 20, (2,) * 20], ((0, 1),)),
        ]:
            self.assertTrue(near_ok(arrows, paper))
            self.assertIs(ask(near_holds, arrows, paper), True, (arrows, paper))

    def test_papers_that_do_not_hold(self):
        for arrows, paper in [
            ([(3,), (7,)], ((1, 1),)), ([(3,), (7,)], ((0, 1), (1, 1))), ([(3,), (7,)], ((0, HUGE), (1, 1))),
            ([(1,), (-1,)], ((0, 1),)), ([(1,), (-1,)], ((0, 2), (1, 1))), ([(2, 0), (0, 2)], ((0, 3), (1, 4))),
            ([(2, 0), (0, 2)], ((0, 1),)), ([(0, 3), (4, 0)], ((0, 9), (1, 16))), ([(0, 0), (4, 0)], ((1, 1),)),
            ([(0, 0), (4, 0)], ((0, HUGE), (1, 1))), ([(1,) * 20, (2,) * 20], ((1, 1),)),
        ]:
            self.assertFalse(near_ok(arrows, paper))
            self.assertIs(ask(near_holds, arrows, paper), False, (arrows, paper))

    def test_a_sum_just_at_and_just_below_the_square(self):
        for last, answer in [((5, 0), True), ((5, 9), True), ((6, 1), True), ((4, 0), False), ((4, 9), False)]:
            self.assertIs(ask(near_holds, [(5, 0), last], ((0, 1),)), answer, last)
            self.assertIs(ask(near_holds, [last, (5, 0)], ((1, 1),)), answer, last)
        # The mix is (1/2, 1/2), its square 1/2.
        for last, answer in [((1, 0), True), ((7, -6), True), ((7, -7), False), ((2, -2), False), ((0, 0), False)]:
            self.assertIs(ask(near_holds, [(1, 0), (0, 1), last], ((0, 1), (1, 1))), answer, last)

    def test_all_small_papers(self):
        throw = dice(71)
        for turn in range(40):
            arrows = some_arrows(throw, throw.randint(1, 3), 3, 2)
            for weights in itertools.product(range(3), repeat=3):
                paper = tuple((k, s) for k, s in enumerate(weights) if s > 0)
                self.assertIs(near_holds(arrows, paper), near_ok(arrows, paper), (arrows, paper))

    def test_a_part_of_another_kind(self):
        for arrows, mix in KNOWN:
            for thing in twisted(nearest(arrows)):
                self.assertIs(ask(near_holds, arrows, thing), False, thing)

    def test_a_little_changed(self):
        for arrows, mix in KNOWN:
            for thing in changed(nearest(arrows)):
                self.assertIs(ask(near_holds, arrows, thing), near_ok(arrows, thing), (arrows, thing))

    def test_each_clause_of_shares_broken(self):
        arrows = [(0,), (0,), (0,)]
        self.assertIs(near_holds(arrows, ((0, 1), (1, 1), (2, 1))), True)
        for thing in [
            (), ((0, 0),), ((0, -1),), ((-1, 1),), ((3, 1),), ((0, 1), (0, 1)), ((1, 1), (0, 1)), ((0, 1), (1, 0)),
            ((0,),), ((0, 1, 1),), (0, 1), [(0, 1)], ([0, 1],), ((0, True),), ((False, 1),), ((0, 1), (3, 1)),
        ]:
            self.assertIs(ask(near_holds, arrows, thing), False, thing)

    def test_whatever(self):
        for arrows in ([(0,)], [(1, 2), (3, -4)], [(0,) * 20] * 16):
            for thing in odd_things():
                self.assertIs(ask(near_holds, arrows, thing), False)
                self.assertIs(ask(near_holds, arrows, (thing,)), False)
                self.assertIs(ask(near_holds, arrows, ((0, 1), thing)), False)
                if type(thing) is not int:
                    self.assertIs(ask(near_holds, arrows, ((0, thing),)), False)
                    self.assertIs(ask(near_holds, arrows, ((thing, 1),)), False)

    def test_by_names_in_any_order(self):
        self.assertIs(near_holds(arrows=[(3,), (7,)], thing=((0, 1),)), True)
        self.assertIs(near_holds(thing=((1, 1),), arrows=[(3,), (7,)]), False)


if __name__ == "__main__":
    unittest.main()
