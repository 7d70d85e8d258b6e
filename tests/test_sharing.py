"""Promises 10 to 12: whether groups share a spot, and the first few that share none; and of 2 and 3 what they touch."""

import itertools
import unittest

from heapsmeet.errors import HeapsError, TooMany
from heapsmeet.groups import apart_holds, shared_holds
from heapsmeet.places import place
from heapsmeet.sharing import few, sharing
from heapsmeet.spots import is_points
from tests.support import apart_ok, ask, dice, is_row, places_of, shared_ok, some_groups, some_points

SQUARE = [(0, 0, 1), (4, 0, 1), (4, 4, 1), (0, 4, 1), (2, 2, 1), (9, 9, 1)]
TETRA = [(0, 0, 0, 1), (3, 0, 0, 1), (0, 3, 0, 1), (0, 0, 3, 1), (1, 1, 1, 2)]
# As many groups as are let, by directions.
MOST = {1: 11, 2: 7, 3: 6}


def meets_in_line(points, groups):
    """Whether groups in a line share a spot: whether the last start lies no later than the first end."""
    rows = [[places_of(points[k])[0] for k in group] for group in groups]
    return max(min(row) for row in rows) <= min(max(row) for row in rows)


class Sharing(unittest.TestCase):
    def told(self, points, groups):
        """The word, once its paper has been held against the document's sums and both checkers."""
        answer = ask(sharing, points, groups)
        self.assertTrue(is_row(answer, 2))
        word, paper = answer
        self.assertIn(word, ("shared", "apart"))
        where = (points, groups, answer)
        self.assertIs(shared_ok(points, groups, paper), word == "shared", where)
        self.assertIs(apart_ok(points, groups, paper), word == "apart", where)
        self.assertIs(shared_holds(points, groups, paper), word == "shared", where)
        self.assertIs(apart_holds(points, groups, paper), word == "apart", where)
        return word

    def test_one_group(self):
        throw = dice(11)
        for directions in (1, 2, 3):
            for many in (1, 2, 5, 40):
                points = some_points(throw, directions, many, 10000, 60)
                for group in [(0,), (many - 1,), tuple(range(many)), tuple(range(many // 2, many))]:
                    self.assertEqual(self.told(points, [group]), "shared")

    def test_two_groups_in_a_line(self):
        points = [(0, 1), (4, 1), (2, 1), (6, 1), (9, 2), (5, 1)]
        for groups, word in [
            ([(0, 1), (2, 3)], "shared"), ([(0, 1), (3, 5)], "apart"), ([(0, 1), (1, 3)], "shared"), ([(0,), (1,)], "apart"),
            ([(4,), (1, 5)], "shared"), ([(4,), (0, 1)], "apart"), ([(0, 3), (2,)], "shared"), ([(5,), (4, 3)], "shared"),
            ([(0, 1), (4, 5)], "apart"), ([(2, 3), (0,)], "apart"), ([(0, 5), (4,)], "shared"),
        ]:
            groups = [tuple(sorted(group)) for group in groups]
            self.assertEqual(self.told(points, groups), word, groups)
            self.assertEqual(self.told(points, groups[::-1]), word, groups)

    def test_groups_in_a_plane(self):
        for groups, word in [
            ([(0, 2), (1, 3)], "shared"), ([(0, 1), (2, 3)], "apart"), ([(0, 1), (1, 2)], "shared"), ([(0, 5), (1, 3)], "shared"),
            ([(0, 1, 3), (4,)], "shared"), ([(0, 1, 3), (2,)], "apart"), ([(0, 1, 2, 3), (5,)], "apart"),
            ([(0, 1), (1, 2), (2, 3)], "apart"), ([(0, 1, 2), (1, 2, 3), (0, 2, 3), (0, 1, 3)], "shared"),
            ([(0, 1), (0, 3), (0, 5)], "shared"), ([(0, 1), (0, 3), (4, 5)], "apart"), ([(0, 2), (4,), (1, 3), (4, 5)], "shared"),
        ]:
            for order in itertools.permutations(groups):
                self.assertEqual(self.told(SQUARE, list(order)), word, order)

    def test_groups_in_space(self):
        sides = [(1, 2, 3), (0, 2, 3), (0, 1, 3), (0, 1, 2)]
        self.assertEqual(self.told(TETRA, sides), "apart")
        for left_out in range(4):
            self.assertEqual(self.told(TETRA, sides[:left_out] + sides[left_out + 1:]), "shared")
        self.assertEqual(self.told(TETRA, [(4,), (0, 1, 2, 3)]), "shared")
        self.assertEqual(self.told(TETRA, [(4,), (1, 2, 3)]), "apart")
        self.assertEqual(self.told(TETRA, [(4,), (0, 1, 2, 3), (4,), (0, 4)]), "shared")
        self.assertEqual(self.told(TETRA, [(0, 1), (2, 3)]), "apart")
        self.assertEqual(self.told([(0, 0, 0, 1), (2, 2, 2, 1), (2, 0, 0, 1), (0, 2, 2, 1)], [(0, 1), (2, 3)]), "shared")

    def test_as_in_a_line_worked_out_by_ends(self):
        throw = dice(12)
        seen = {}
        for turn in range(150):
            reach, bottom = throw.choice(((1, 1), (3, 2), (9, 9), (10000, 60)))
            points = some_points(throw, 1, throw.randint(1, 12), reach, bottom)
            groups = some_groups(throw, len(points), throw.randint(1, 11), throw.choice((1, 2, 4, None)))
            word = self.told(points, groups)
            self.assertEqual(word, "shared" if meets_in_line(points, groups) else "apart", (points, groups))
            seen[word] = seen.get(word, 0) + 1
        self.assertGreater(min(seen["shared"], seen["apart"]), 25)

    def test_as_a_spot_lies_within_or_without(self):
        throw = dice(13)
        for turn in range(90):
            directions = throw.randint(1, 3)
            points = some_points(throw, directions, 7, throw.choice((1, 4, 10000)), throw.choice((1, 60)))
            others = [point for point in points[1:]]
            word = "shared" if place(others, points[0])[0] == "within" else "apart"
            self.assertEqual(self.told(points, [(0,), tuple(range(1, 7))]), word)
            self.assertEqual(self.told(points, [tuple(range(1, 7)), (0,)]), word)

    def test_all_counts_of_groups_by_chance(self):
        throw = dice(14)
        seen = {}
        for directions in (1, 2, 3):
            for count in range(1, MOST[directions] + 1):
                for reach, bottom, many in ((1, 1, 5), (3, 2, 9), (9, 3, 15), (10000, 60, 40)):
                    points = some_points(throw, directions, many, reach, bottom)
                    word = self.told(points, some_groups(throw, many, count, 400 // count))
                    seen[directions, word] = seen.get((directions, word), 0) + 1
        self.assertEqual(len(seen), 6)

    def test_the_order_of_groups_does_not_matter(self):
        throw = dice(15)
        for turn in range(12):
            points = some_points(throw, throw.choice((2, 3)), 6, 2, 2)
            groups = some_groups(throw, 6, 3, 4)
            words = {self.told(points, list(order)) for order in itertools.permutations(groups)}
            self.assertEqual(len(words), 1)

    def test_as_many_groups_as_are_let(self):
        throw = dice(16)
        for directions, most in MOST.items():
            points = some_points(throw, directions, 8)
            same, unlike = [(0,)] * most, [(k * 7 // most,) for k in range(most)]
            self.assertEqual(self.told(points, same), "shared")
            self.assertEqual(self.told(points, unlike), "apart")
            self.assertEqual(self.told(points, [tuple(range(8))] * most), "shared")
            for groups in (same + [(0,)], unlike + [(7,)], same * 3):
                self.refused(points, groups)

    def refused(self, points, groups):
        for maker in (sharing, few):
            with self.assertRaises(TooMany) as caught:
                maker(points, groups)
            self.assertIs(type(caught.exception), TooMany)
            self.assertIsInstance(caught.exception, HeapsError)
            self.assertIsInstance(caught.exception, ValueError)
            kept = (list(points), list(groups))
            with self.assertRaises(TooMany):
                maker(points=points, groups=groups)
            self.assertEqual((points, groups), kept)

    def test_forty_groups_are_too_many(self):
        for directions in (1, 2, 3):
            points = some_points(dice(17), directions, 40)
            self.refused(points, [(k,) for k in range(40)])

    def test_four_hundred_points_of_all_groups_and_one_more(self):
        whole = tuple(range(40))
        points = some_points(dice(18), 1, 40, 10000, 60)
        self.assertTrue(is_points(points))
        self.assertEqual(self.told(points, [whole] * 10), "shared")
        self.assertEqual(self.told(points, [whole] * 9 + [tuple(range(39)), (39,)]), "shared")
        self.refused(points, [whole] * 10 + [(0,)])
        self.refused(points, [whole] * 9 + [whole, (39,)])
        self.refused(points, [whole] * 11)
        low, high = min(points, key=places_of), max(points, key=places_of)
        ends = (points.index(low),), (points.index(high),)
        self.assertEqual(self.told(points, [whole] * 9 + [tuple(k for k in whole if k != ends[0][0]), ends[0]]), "apart")

    def test_many_points_in_plane_and_space(self):
        throw = dice(19)
        for directions in (2, 3):
            points = some_points(throw, directions, 40, 10000, 60)
            for count in (2, MOST[directions]):
                self.assertEqual(self.told(points, [tuple(range(40))] * count), "shared")
                self.told(points, some_groups(throw, 40, count))

    def test_the_same_group_several_times(self):
        throw = dice(20)
        for directions, most in MOST.items():
            points = some_points(throw, directions, 6, 9, 5)
            for group in [(0,), (1, 4), (0, 1, 2, 3, 4, 5)]:
                for count in (2, 3, most):
                    self.assertEqual(self.told(points, [group] * count), "shared")

    def test_groups_that_have_a_point_in_common(self):
        throw = dice(21)
        for directions, most in MOST.items():
            for turn in range(6):
                points = some_points(throw, directions, 9, 10000, 60)
                groups = [tuple(sorted({4, *group})) for group in some_groups(throw, 9, throw.randint(2, most))]
                self.assertEqual(self.told(points, groups), "shared")

    def test_groups_that_touch_at_one_spot(self):
        line = [(-3, 7), (2, 9), (2, 9), (5, 1)]
        self.assertEqual(self.told(line, [(0, 1), (2, 3)]), "shared")
        self.assertEqual(sharing(line, [(0, 1), (2, 3)])[1][0], (2, 9))
        plane = [(0, 0, 1), (4, 2, 1), (2, 1, 1), (0, 9, 1), (9, 0, 1), (3, 0, 1), (1, 2, 1)]
        self.assertEqual(self.told(plane, [(0, 1), (2, 3)]), "shared")
        self.assertEqual(sharing(plane, [(0, 1), (2, 3)])[1][0], (2, 1, 1))
        # Two slanted lines that cross where the point of the third group lies.
        self.assertEqual(self.told(plane, [(0, 1), (5, 6), (2,)]), "shared")
        space = [(0, 0, 0, 1), (2, 2, 2, 1), (0, 2, 1, 1), (2, 0, 1, 1), (1, 1, 0, 1), (1, 1, 1, 1)]
        self.assertEqual(self.told(space, [(0, 1), (2, 3), (4, 5)]), "shared")
        self.assertEqual(sharing(space, [(0, 1), (2, 3), (4, 5)])[1][0], (1, 1, 1, 1))

    def test_groups_a_hair_apart(self):
        self.assertEqual(self.told([(1, 60), (1, 59)], [(0,), (1,)]), "apart")
        self.assertEqual(self.told([(-10000, 1), (9999, 59), (10000, 59), (10000, 1)], [(0, 1), (2, 3)]), "apart")
        self.assertEqual(self.told([(9998, 59), (9999, 59), (10000, 59)], [(0, 2), (1,)]), "shared")
        slanted = [(-10000, -9999, 1), (10000, 9999, 1), (0, 0, 1), (1, 1, 60), (-10000, 10000, 1)]
        self.assertEqual(self.told(slanted, [(0, 1), (2, 4)]), "shared")
        self.assertEqual(self.told(slanted, [(0, 1), (3, 4)]), "apart")
        space = [(0, 0, 0, 1), (9999, 10000, 0, 1), (1, 1, 0, 60), (0, 0, 9, 1)]
        self.assertEqual(self.told(space, [(0, 1), (2, 3)]), "apart")

    def test_one_point_in_each_group(self):
        for directions, most in MOST.items():
            spots = some_points(dice(22), directions, 2, 10000, 60)
            alike = [spots[0]] * most
            self.assertEqual(self.told(alike, [(k,) for k in range(most)]), "shared")
            self.assertEqual(self.told(alike[1:] + spots[1:], [(k,) for k in range(most)]), "apart")

    def test_points_alike(self):
        for directions in (1, 2, 3):
            points = some_points(dice(23), directions, 1, 10000, 60) * 40
            self.assertEqual(self.told(points, [tuple(range(13)), tuple(range(13, 20)), tuple(range(25, 40))]), "shared")

    def test_points_on_a_line_and_in_a_plane(self):
        plane = [(k, 2 * k, 1) for k in range(6)]
        space = [(k, 2 * k, -k, 1) for k in range(6)]
        flat = [(0, 0, 7, 1), (4, 0, 7, 1), (4, 4, 7, 1), (0, 4, 7, 1), (2, 2, 7, 1), (9, 9, 7, 1)]
        for points in (plane, space):
            self.assertEqual(self.told(points, [(0, 3), (2, 5)]), "shared")
            self.assertEqual(self.told(points, [(0, 2), (2, 5), (1, 4)]), "shared")
            self.assertEqual(self.told(points, [(0, 2), (3, 5)]), "apart")
            self.assertEqual(self.told(points, [(0, 3), (2, 5), (4, 5)]), "apart")
        self.assertEqual(self.told(flat, [(0, 2), (1, 3), (4, 5)]), "shared")
        self.assertEqual(self.told(flat, [(0, 1), (2, 3)]), "apart")

    def test_what_is_told_does_not_hang_on_what_is_handed_in(self):
        points, groups = [(0, 1), (4, 1), (2, 1)], [(0, 1), (2,)]
        word, paper = sharing(points, groups)
        points[2] = (7, 1)
        groups[0] = (0,)
        self.assertTrue(shared_ok([(0, 1), (4, 1), (2, 1)], [(0, 1), (2,)], paper))
        self.assertEqual(self.told(points, groups), "apart")

    def test_by_names_in_any_order(self):
        self.assertEqual(sharing(points=SQUARE, groups=[(0,), (1,)])[0], "apart")
        self.assertEqual(sharing(groups=[(0, 2), (4,)], points=SQUARE)[0], "shared")


class Few(unittest.TestCase):
    def told(self, points, groups):
        """The few's numbers, or None, once held against the document's words."""
        answer = ask(few, points, groups)
        directions = len(points[0]) - 1
        rows = [
            row for size in range(2, directions + 2) for row in itertools.combinations(range(len(groups)), size)
        ]
        if answer is not None:
            self.assertTrue(is_row(answer, 2))
            row, paper = answer
            self.assertTrue(is_row(row))
            chosen = [groups[k] for k in row]
            self.assertIn(row, rows)
            self.assertTrue(apart_ok(points, chosen, paper), (points, groups, answer))
            self.assertIs(apart_holds(points, chosen, paper), True)
            self.assertIs(shared_holds(points, chosen, paper), False)
            rows = rows[:rows.index(row)]
        for ahead in rows:
            chosen = [groups[k] for k in ahead]
            word, paper = sharing(points, chosen)
            self.assertEqual(word, "shared", (points, groups, ahead))
            self.assertTrue(shared_ok(points, chosen, paper))
        if answer is None:
            word, paper = sharing(points, groups)
            self.assertTrue(word == "shared" and shared_ok(points, groups, paper))
            return None
        # Each fewer of them do share a spot.
        for left_out in answer[0]:
            fewer = [groups[k] for k in answer[0] if k != left_out]
            self.assertEqual(sharing(points, fewer)[0], "shared")
        return answer[0]

    def test_one_group(self):
        for points in ([(0, 1)], SQUARE, TETRA):
            self.assertIsNone(self.told(points, [tuple(range(len(points)))]))
            self.assertIsNone(self.told(points, [(0,)]))

    def test_in_a_line(self):
        points = [(k, 2) if k % 2 else (k // 2, 1) for k in range(12)]
        for groups, row in [
            ([(0, 3), (2, 5)], None), ([(0, 1), (2, 5)], (0, 1)), ([(0, 9), (2, 5), (3, 6), (7, 8)], (1, 3)),
            ([(0, 9), (2, 5), (3, 8), (6, 8)], (1, 3)), ([(0, 2), (2, 5), (2, 9)], None), ([(0, 2), (2, 5), (3, 9)], (0, 2)),
            ([(0, 2), (0, 5), (5, 9), (1, 4), (3, 9)], (0, 2)), ([(5,), (4, 6), (5, 11), (0, 5)], None),
            ([(3, 4), (0, 1), (6, 7)], (0, 1)), ([(0, 11)] * 9 + [(0, 5), (6, 11)], (9, 10)), ([(0, 11)] * 11, None),
        ]:
            self.assertEqual(self.told(points, groups), row, groups)

    def test_in_a_plane(self):
        corners = [(0, 0, 1), (4, 0, 1), (0, 4, 1), (1, 1, 1), (9, 9, 1)]
        sides = [(0, 1), (1, 2), (0, 2)]
        whole = (0, 1, 2, 3, 4)
        for groups, row in [
            (sides, (0, 1, 2)), ([whole, *sides], (1, 2, 3)), ([*sides, whole], (0, 1, 2)), ([sides[0], whole, *sides[1:]], (0, 2, 3)),
            ([whole, sides[0], whole, sides[1], whole, sides[2]], (1, 3, 5)), ([*sides, (3,)], (0, 3)), ([*sides, (4,)], (0, 3)),
            ([whole, *sides, (3, 4)], (1, 4)), ([(0, 1, 2), (3,), (0, 4)], None), ([sides[0], sides[1], sides[0]], None),
            ([(0, 3), (1, 3), (2, 3), sides[1]], (0, 3)), ([(0, 3), (1, 3), (2, 3), whole], None), ([(0,), (1,)], (0, 1)),
        ]:
            self.assertEqual(self.told(corners, groups), row, groups)

    def test_in_space(self):
        sides = [(1, 2, 3), (0, 2, 3), (0, 1, 3), (0, 1, 2)]
        whole = (0, 1, 2, 3, 4)
        for groups, row in [
            (sides, (0, 1, 2, 3)), ([whole, *sides], (1, 2, 3, 4)), ([*sides, whole, whole], (0, 1, 2, 3)),
            ([whole, sides[0], sides[1], whole, sides[2], sides[3]], (1, 2, 4, 5)), ([*sides, (4,)], (0, 4)),
            (sides[:3], None), ([sides[0], (0, 1), (0, 2)], (0, 1, 2)), ([*sides[:3], (0, 1), (0, 2)], (0, 1, 3)),
            ([whole, *sides[:3], (0, 3)], None), ([*sides[1:], (0, 1), (0, 2)], None), ([whole, (0, 1), (2, 3)], (1, 2)),
        ]:
            self.assertEqual(self.told(TETRA, groups), row, groups)

    def test_two_groups(self):
        for points in ([(0, 1), (1, 1)], SQUARE, TETRA):
            self.assertEqual(self.told(points, [(0,), (1,)]), (0, 1))
            self.assertIsNone(self.told(points, [(0,), (0, 1)]))

    def test_groups_a_hair_apart(self):
        self.assertEqual(self.told([(0, 1), (1, 60), (1, 59), (1, 1)], [(0, 3), (0, 1), (2, 3)]), (1, 2))
        # Three lines in a plane, of which each two meet, and all three but for a hair.
        points = [(-9, 0, 1), (9, 0, 1), (0, -9, 1), (0, 9, 1), (-9, -9, 1), (9, 9, 1), (-9, -9, 1), (541, 539, 60)]
        self.assertIsNone(self.told(points, [(0, 1), (2, 3), (4, 5)]))
        self.assertEqual(self.told(points, [(0, 1), (2, 3), (6, 7)]), (0, 1, 2))

    def test_by_chance(self):
        throw = dice(24)
        seen = {}
        for directions in (1, 2, 3):
            for turn in range(40):
                reach, bottom = throw.choice(((1, 1), (2, 1), (4, 3), (10000, 60)))
                many = throw.choice((3, 5, 8, 12))
                points = some_points(throw, directions, many, reach, bottom)
                row = self.told(points, some_groups(throw, many, throw.randint(2, MOST[directions])))
                seen.setdefault((directions, 0 if row is None else len(row)), row)
                # Hulls round the middle: they often meet by twos, or threes, and not all.
                points = some_points(throw, directions, 12, 50, 1)
                points += [tuple(-n for n in point[:-1]) + (1,) for point in points]
                groups = [tuple(sorted({k, j, k + 12})) for k, j in enumerate(throw.sample(range(24), 5))]
                row = self.told([(*(n + throw.randint(-5, 5) for n in p[:-1]), 1) for p in points], groups)
                seen.setdefault((directions, 0 if row is None else len(row)), row)
        self.assertEqual(sorted(seen)[:5], [(1, 0), (1, 2), (2, 0), (2, 2), (2, 3)])
        self.assertIn((3, 3), seen)

    def test_in_a_line_by_ends(self):
        throw = dice(25)
        for turn in range(60):
            points = some_points(throw, 1, 9, 9, 3)
            groups = some_groups(throw, 9, throw.randint(1, 11), 4)
            rows = [
                row for row in itertools.combinations(range(len(groups)), 2)
                if not meets_in_line(points, [groups[k] for k in row])
            ]
            self.assertEqual(self.told(points, groups), min(rows, default=None))

    def test_refused_by_all_groups(self):
        # The first two are apart, which isn't told, as all together are too many.
        for points, most in (([(0, 1), (9, 1)], 11), (SQUARE, 7), (TETRA, 6)):
            groups = [(0,), (1,)] + [(0,)] * (most - 2)
            self.assertEqual(self.told(points, groups), (0, 1))
            with self.assertRaises(TooMany):
                few(points, groups + [(0,)])

    def test_as_many_points_as_are_let(self):
        whole = tuple(range(40))
        points = some_points(dice(26), 1, 40, 10000, 60)
        self.assertIsNone(ask(few, points, [whole] * 10))
        with self.assertRaises(TooMany):
            few(points, [whole] * 10 + [(0,)])

    def test_by_names_in_any_order(self):
        self.assertEqual(few(points=SQUARE, groups=[(0,), (1,)])[0], (0, 1))
        self.assertIsNone(few(groups=[(0, 2), (4,)], points=SQUARE))


if __name__ == "__main__":
    unittest.main()
