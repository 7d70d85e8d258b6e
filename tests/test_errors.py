"""The refusals: what each stands under, and how each is made."""

import unittest

from heapsmeet.errors import (
    Flat, HeapsError, NoDepth, NoPoint, NoText, NotHeld, NotPoint, TooFew, TooMany,
)

PLAIN = [TooMany, TooFew, NoDepth, Flat, NoText, NoPoint, NotPoint]
ALL = PLAIN + [NotHeld]


class Errors(unittest.TestCase):
    def test_heaps_error_stands_under_value_error(self):
        self.assertEqual(HeapsError.__bases__, (ValueError,))

    def test_each_stands_straight_under_heaps_error(self):
        for kind in ALL:
            self.assertEqual(kind.__bases__, (HeapsError,), kind)

    def test_none_stands_under_another(self):
        for one in ALL:
            for other in ALL:
                self.assertEqual(issubclass(one, other), one is other, (one, other))

    def test_names(self):
        names = ["Flat", "NoDepth", "NoPoint", "NoText", "NotHeld", "NotPoint", "TooFew", "TooMany"]
        self.assertEqual(sorted(kind.__name__ for kind in ALL), names)
        self.assertEqual(HeapsError.__name__, "HeapsError")

    def test_made_without_anything(self):
        for kind in [HeapsError] + PLAIN:
            with self.assertRaises(kind) as caught:
                raise kind()
            self.assertIsInstance(caught.exception, HeapsError)
            self.assertIsInstance(caught.exception, ValueError)

    def test_each_is_caught_by_its_own_name_alone(self):
        for kind in PLAIN:
            made = kind()
            for other in ALL:
                self.assertEqual(isinstance(made, other), kind is other)

    def test_not_held_has_its_colour(self):
        for colour in (0, 1, 20):
            self.assertEqual(NotHeld(colour).colour, colour)
            self.assertEqual(NotHeld(colour=colour).colour, colour)
            with self.assertRaises(NotHeld) as caught:
                raise NotHeld(colour)
            self.assertEqual(caught.exception.colour, colour)
            self.assertIs(type(caught.exception.colour), int)

    def test_not_held_needs_its_colour(self):
        with self.assertRaises(TypeError):
            NotHeld()

    def test_two_not_helds_keep_their_own_colours(self):
        first, second = NotHeld(1), NotHeld(2)
        self.assertEqual((first.colour, second.colour), (1, 2))


if __name__ == "__main__":
    unittest.main()
