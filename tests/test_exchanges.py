"""Promises 15 and 16: choices that are exchanged; and of 2 and 3 what they touch."""

import unittest

from heapsmeet.errors import HeapsError, NotHeld
from heapsmeet.exchanges import exchanged
from heapsmeet.trails import trail_holds
from tests.support import ask, dice, held_colours, is_row, some_arrows, trail_ok


def away(throw, size, many):
    """Arrows of which no mix is nought: they all go the same way in one direction."""
    at = throw.randrange(size)
    side = throw.choice((1, -1))
    return [
        (*arrow[:at], side * throw.randint(1, 9), *arrow[at + 1:]) for arrow in some_arrows(throw, size, many)
    ]


class Exchanged(unittest.TestCase):
    def told(self, colours):
        """The trail, once held against the document's words and the checker."""
        trail = ask(exchanged, colours)
        self.assertTrue(trail_ok(colours, trail), (colours, trail))
        self.assertIs(trail_holds(colours, trail), True)
        for step in trail:
            self.assertTrue(is_row(step, 2) and is_row(step[0]) and is_row(step[1]))
            # None has more shares than [7] lets it have.
            self.assertLessEqual(len(step[1]), len(colours) - (step != trail[-1]))
        return trail

    def refused(self, colours, colour):
        with self.assertRaises(NotHeld) as caught:
            exchanged(colours)
        self.assertIs(type(caught.exception), NotHeld)
        self.assertIsInstance(caught.exception, HeapsError)
        self.assertIsInstance(caught.exception, ValueError)
        self.assertIs(type(caught.exception.colour), int)
        self.assertEqual(caught.exception.colour, colour, colours)
        kept = [list(arrows) for arrows in colours]
        with self.assertRaises(NotHeld):
            exchanged(colours=colours)
        self.assertEqual(colours, kept)

    def test_of_one_number(self):
        trail = self.told([[(1,), (-1,)], [(2,), (-3,)]])
        self.assertEqual(len(trail), 2)
        self.assertEqual(trail[0], ((0, 0), trail[0][1]))
        self.assertEqual(self.told([[(2,), (-2,)], [(-3,), (3,)]])[-1][0], (0, 0))

    def test_of_all_sizes(self):
        throw = dice(35)
        lengths = set()
        for size in range(1, 7):
            for reach in (1, 9, 1000000):
                for most in (2, 3, 60 // (size + 1)):
                    for turn in range(4):
                        colours = held_colours(throw, size, most, reach // most + 1)
                        lengths.add(len(self.told(colours)))
        self.assertLessEqual({1, 2, 3, 4, 5}, lengths)

    def test_colours_of_one_arrow(self):
        for size in range(1, 7):
            self.assertEqual(len(self.told([[(0,) * size] for colour in range(size + 1)])), 1)

    def test_colours_of_noughts_alone(self):
        throw = dice(36)
        for size in range(1, 7):
            noughts = [[(0,) * size] * 5 for colour in range(size + 1)]
            self.assertEqual(len(self.told(noughts)), 1)
            mixed_in = held_colours(throw, size, 4)
            mixed_in[size // 2] = [(0,) * size] * 3
            self.told(mixed_in)

    def test_colours_alike(self):
        throw = dice(37)
        for size in range(1, 7):
            colour = held_colours(throw, size, 6)[0]
            self.told([list(colour) for k in range(size + 1)])
            # The very same list may stand for each.
            self.told([colour] * (size + 1))

    def test_nought_at_an_edge_of_a_colour(self):
        # Nought lies between two arrows, or is an arrow, and all else lies on one side.
        self.told([
            [(5, 1), (2, 0), (-3, 0), (7, 7)],
            [(4, 4), (0, 0), (9, 1)],
            [(1, 3), (1, -1), (-2, 2), (8, 9)],
        ])
        self.told([[(5,), (0,)], [(7,), (3,), (0,)]])

    def test_sixty_arrows(self):
        throw = dice(38)
        colours = held_colours(throw, 4, 13, 80000)
        while sum(len(colour) for colour in colours) < 60:
            colours[throw.randrange(5)] += some_arrows(throw, 4, 1, 1000000)
        self.told(colours)

    def test_more_numbers_and_arrows_than_are_handed_in(self):
        throw = dice(39)
        self.told(held_colours(throw, 12, 5))
        self.told(held_colours(throw, 7, 9))

    def test_the_first_that_holds_no_nought(self):
        throw = dice(40)
        for size in range(1, 7):
            for at in range(size + 1):
                colours = held_colours(throw, size, 4)
                colours[at] = away(throw, size, throw.randint(1, 4))
                self.refused(colours, at)
                for later in range(at + 1, size + 1):
                    if throw.random() < 0.5:
                        colours[later] = away(throw, size, 2)
                self.refused(colours, at)

    def test_all_hold_none(self):
        throw = dice(41)
        for size in range(1, 7):
            self.refused([away(throw, size, 3) for colour in range(size + 1)], 0)
            self.refused([[(1,) * size] for colour in range(size + 1)], 0)

    def test_refused_although_a_mix_of_the_first_choice_is_nought(self):
        self.refused([[(0,)], [(1,)]], 1)
        self.refused([[(1,)], [(-1,)]], 0)
        self.refused([[(1,), (-1,)], [(-2,)]], 1)
        self.refused([[(0, 0)], [(0, 0)], [(3, 4), (-3, 4)]], 2)
        self.refused([[(0, 0)], [(3, 4), (-3, 4)], [(0, 0)]], 1)

    def test_a_hair_beside_nought(self):
        big = 1000000
        self.refused([[(big, 1), (-big, 0)], [(0, 0)], [(0, 0)]], 0)
        self.told([[(big, 1), (-big, -1)], [(0, 0)], [(0, 0)]])
        self.refused([[(0, 0)], [(big, big - 1), (1 - big, 1 - big)], [(0, 0)]], 1)

    def test_what_is_told_does_not_hang_on_what_is_handed_in(self):
        colours = [[(1,), (-1,)], [(2,), (-3,)]]
        trail = exchanged(colours)
        colours[1][1] = (5,)
        self.assertTrue(trail_ok([[(1,), (-1,)], [(2,), (-3,)]], trail))
        self.refused(colours, 1)

    def test_by_name(self):
        self.assertEqual(exchanged(colours=[[(0,)], [(0,)]])[0][0], (0, 0))


if __name__ == "__main__":
    unittest.main()
