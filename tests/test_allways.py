"""Promise 19: all ways to part points into heaps that share a spot; and of 2 and 3 what they touch."""

import unittest

from heapsmeet.allways import ways
from heapsmeet.errors import HeapsError, TooMany
from heapsmeet.heaps import heaps
from heapsmeet.sharing import sharing
from heapsmeet.signs import two_heaps
from heapsmeet.ties import is_plain
from tests.support import HUGE, apart_ok, ask, dice, is_row, is_row_of_wholes, partings_of, shared_ok, some_points


class Ways(unittest.TestCase):
    def told(self, points, many):
        """All ways, once held against all partings, each with its paper by the document's sums."""
        answer = ask(ways, points, many)
        self.assertIs(type(answer), list)
        for rows in answer:
            self.assertTrue(is_row(rows, many) and all(is_row_of_wholes(row) for row in rows))
        right = []
        for rows in partings_of(len(points), many):
            word, paper = sharing(points, list(rows))
            check = shared_ok if word == "shared" else apart_ok
            self.assertTrue(check(points, list(rows), paper))
            if word == "shared":
                right.append(rows)
        self.assertEqual(answer, right, points)
        return answer

    def refused(self, points, many):
        with self.assertRaises(TooMany) as caught:
            ways(points, many)
        self.assertIs(type(caught.exception), TooMany)
        self.assertIsInstance(caught.exception, HeapsError)
        self.assertIsInstance(caught.exception, ValueError)

    def test_by_hand(self):
        self.assertEqual(self.told([(0, 1), (1, 1), (2, 1)], 2), [((0, 2), (1,))])
        self.assertEqual(self.told([(1, 1), (0, 1), (2, 1)], 2), [((0,), (1, 2))])
        self.assertEqual(self.told([(0, 1), (1, 1), (2, 1), (3, 1)], 2), [
            ((0, 1, 3), (2,)), ((0, 2), (1, 3)), ((0, 2, 3), (1,)), ((0, 3), (1, 2)),
        ])
        self.assertEqual(self.told([(k, 1) for k in range(5)], 3), [((0, 3), (1, 4), (2,)), ((0, 4), (1, 3), (2,))])
        self.assertEqual(self.told([(0, 0, 1), (4, 0, 1), (4, 4, 1), (0, 4, 1)], 2), [((0, 2), (1, 3))])
        self.assertEqual(self.told([(0, 0, 1), (4, 0, 1), (0, 4, 1), (1, 1, 1)], 2), [((0, 1, 2), (3,))])
        self.assertEqual(
            self.told([(0, 0, 0, 1), (9, 0, 0, 1), (0, 9, 0, 1), (0, 0, 9, 1), (1, 1, 1, 1)], 2), [((0, 1, 2, 3), (4,))],
        )
        self.assertEqual(self.told([(0, 1), (1, 1)], 2), [])
        self.assertEqual(self.told([(0, 1), (0, 1)], 2), [((0,), (1,))])
        self.assertEqual(self.told([(3, 3, 1)] * 3, 3), [((0,), (1,), (2,))])

    def test_no_points_and_fewer_than_heaps(self):
        for many in (2, 3):
            self.assertEqual(self.told([], many), [])
            for directions in (1, 2, 3):
                point = some_points(dice(54), directions, 1)
                for count in range(1, many):
                    self.assertEqual(self.told(point * count, many), [])
                self.assertEqual(self.told(point * many, many), [tuple((k,) for k in range(many))])

    def test_all_counts_by_chance(self):
        throw = dice(55)
        for directions in (1, 2, 3):
            for many in (2, 3):
                for count in range(many, 8):
                    for reach, bottom in ((1, 1), (3, 2), (10000, 60)):
                        self.told(some_points(throw, directions, count, reach, bottom), many)

    def test_points_alike_share_by_all_partings(self):
        for directions in (1, 2, 3):
            points = some_points(dice(56), directions, 1, 10000, 60) * 7
            self.assertEqual(len(self.told(points, 2)), 63)
            self.assertEqual(len(self.told(points, 3)), 301)

    def test_points_on_a_line(self):
        steps = (0, 5, 2, 7, 1, 1, 4)
        for many in (2, 3):
            line = self.told([(k, 1) for k in steps], many)
            self.assertEqual(self.told([(k, 3 * k, 1) for k in steps], many), line)
            self.assertEqual(self.told([(k, 3 * k, -k, 1) for k in steps], many), line)

    def test_plain_points_have_one_way_alone(self):
        throw = dice(57)
        for directions in (1, 2, 3):
            seen = 0
            while seen < 5:
                points = some_points(throw, directions, directions + 2, 6, 2)
                if is_plain(points):
                    seen += 1
                    self.assertEqual(self.told(points, 2), [tuple(sorted(two_heaps(points)[0]))])

    def test_heaps_are_among_the_ways(self):
        throw = dice(58)
        for directions, many, count in ((1, 2, 3), (1, 2, 7), (1, 3, 5), (1, 3, 7), (2, 2, 4), (2, 3, 7), (3, 2, 5), (3, 2, 7)):
            for turn in range(4):
                points = some_points(throw, directions, count, 9, 3)
                self.assertIn(tuple(sorted(heaps(points, many)[0])), ways(points, many))

    def test_too_many_points(self):
        for directions in (1, 2, 3):
            points = some_points(dice(59), directions, 40)
            for many in (2, 3):
                self.told(points[:7], many)
                for count in (8, 9, 40):
                    self.refused(points[:count], many)

    def test_another_number_of_heaps(self):
        for points in ([], [(0, 1)], [(0, 0, 1)] * 7, [(0, 0, 0, 1)] * 8):
            for many in (1, 4, 5, 7, 40, 0, -1, -2, HUGE):
                self.refused(points, many)

    def test_what_is_told_is_the_askers_own(self):
        points = [(0, 1), (1, 1), (2, 1), (3, 1)]
        first = ways(points, 2)
        kept = list(first)
        first.clear()
        self.assertEqual(ways(points, 2), kept)
        first = ways([], 2)
        first.append(((0,), (1,)))
        self.assertEqual(ways([], 2), [])
        second = ways(points, 2)
        points.pop()
        self.assertEqual(second, kept)

    def test_by_names_in_any_order(self):
        self.assertEqual(ways(many=2, points=[(0, 1), (0, 1)]), [((0,), (1,))])
        self.assertEqual(ways(points=[], many=3), [])


if __name__ == "__main__":
    unittest.main()
