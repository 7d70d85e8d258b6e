"""Promise 27: points told by lines of text, and read again; and of 2 what it touches."""

import itertools
import unittest

from heapsmeet.errors import HeapsError, NoText
from heapsmeet.spots import is_points
from heapsmeet.texts import read, told
from tests.support import HUGE, alike, ask, dice, lowest, odd_things, places_of, some_points

# Points, and the text that tells them.
TEXTS = [
    ([], ""), ([(0, 1)], "0\n"), ([(-5, 1)], "-5\n"), ([(10000, 1)], "10000\n"), ([(-10000, 1)], "-10000\n"),
    ([(1, 2)], "1/2\n"), ([(-1, 60)], "-1/60\n"), ([(-9999, 59)], "-9999/59\n"), ([(10, 1), (100, 7)], "10\n100/7\n"),
    ([(1, 2, 1)], "1 2\n"), ([(1, 2, 2)], "1/2 1\n"), ([(2, 1, 2)], "1 1/2\n"), ([(0, 1, 60)], "0 1/60\n"),
    ([(3, 2, 6)], "1/2 1/3\n"), ([(-3, -4, 6)], "-1/2 -2/3\n"), ([(0, 0, 1)] * 3, "0 0\n0 0\n0 0\n"),
    ([(1, 2, 3, 1)], "1 2 3\n"), ([(6, 10, 15, 30)], "1/5 1/3 1/2\n"), ([(0, 0, 0, 1)], "0 0 0\n"),
    ([(60, -1, 0, 60)], "1 -1/60 0\n"),
    ([(4, 6, 3, 6)], "2/3 1 1/2\n"), ([(1, 1), (-7, 3), (0, 1), (1, 1)], "1\n-7/3\n0\n1\n"),
]

# A word that tells no place.
NO_PLACES = [
    "", "+1", "+0", "-0", "00", "01", "-01", "007", "0/1", "0/2", "1/1", "-3/1", "1/0", "0/0", "1/-2", "-1/-2", "2/4", "6/3",
    "4/2", "-2/4", "10/60", "1/02", "01/2", "-0/2", "+1/2", "1/+2", "1/", "/2", "/", "1//2", "1/2/3", "-", "--1", "-/2", "1-", "1.0",
    "1.5", ".5", "1e3", "1_0", "0x1", "a", "1a", "a1", "(0,", "None", "True", ",", "1,", "|", "~", "1:2", "!", '"1"', "1/b", "b/2",
    "- 1", "1 /2", "1/ 2", "x", "x1", "1x", "1/x", "-x",
]
# A word that tells a place of no point.
NO_POINTS = [
    "10001", "-10001", "99999", "100000", "-100000", "999999", "1234567", "1/61", "-1/61", "1/100", "1/99999", "1/100000", "10001/2",
    "9" * 50, "-" + "9" * 400, "1" + "0" * 5000, "1/" + "9" * 4000, "9" * 4301, "1/7" + "0" * 4400,
]


def told_as_written(points):
    """The text by the words of 27, over fractions."""
    lines = []
    for point in points:
        words = [
            str(p.numerator) if p.denominator == 1 else f"{p.numerator}/{p.denominator}" for p in places_of(point)
        ]
        lines.append(" ".join(words) + "\n")
    return "".join(lines)


class Told(unittest.TestCase):
    def told(self, points):
        text = ask(told, points)
        self.assertIs(type(text), str)
        self.assertEqual(text, told_as_written(points))
        back = ask(read, text)
        self.assertTrue(alike(back, points), (points, text, back))
        self.assertIs(is_points(back), True)
        return text

    def test_by_hand(self):
        for points, text in TEXTS:
            self.assertEqual(self.told(points), text)

    def test_no_points_one_and_forty(self):
        throw = dice(120)
        self.assertEqual(self.told([]), "")
        for directions in (1, 2, 3):
            for many in (1, 2, 39, 40):
                for reach, bottom in ((1, 1), (9, 4), (10000, 60)):
                    text = self.told(some_points(throw, directions, many, reach, bottom))
                    self.assertEqual(text.count("\n"), many)

    def test_places_with_every_bottom(self):
        for bottom in range(1, 61):
            for number in (-10000, -61, -1, 0, 1, 30, 60, 9999):
                self.told([lowest((number,), bottom)])
                self.told([lowest((number, 7), bottom), (0, 0, 1)])
                self.told([lowest((number, bottom, -2 * bottom), bottom)])

    def test_whole_places_of_a_spot_with_a_bottom(self):
        self.assertEqual(self.told([(1, 60, 60)]), "1/60 1\n")
        self.assertEqual(self.told([(1, 0, -120, 60)]), "1/60 0 -2\n")

    def test_by_names(self):
        self.assertEqual(told(points=[(1, 2)]), "1/2\n")
        self.assertEqual(read(thing="1/2\n"), [(1, 2)])


class Read(unittest.TestCase):
    def refused(self, thing):
        with self.assertRaises(HeapsError) as caught:
            read(thing)
        self.assertIs(type(caught.exception), NoText)
        self.assertIsInstance(caught.exception, ValueError)
        with self.assertRaises(NoText):
            read(thing=thing)

    def test_by_hand(self):
        for points, text in TEXTS:
            found = ask(read, text)
            self.assertIs(type(found), list)
            self.assertTrue(alike(found, points), (text, found))

    def test_the_list_is_the_askers_own(self):
        found = read("1\n2\n")
        found.append((3, 1))
        self.assertEqual(read("1\n2\n"), [(1, 1), (2, 1)])
        empty = read("")
        empty.append((3, 1))
        self.assertEqual(read(""), [])

    def test_words_that_tell_no_place(self):
        for word in NO_PLACES + NO_POINTS:
            for text in [f"{word}\n", f"1 {word}\n", f"{word} 1\n", f"1 {word} 1\n", f"1\n{word}\n", f"{word}\n1\n", f"1 2\n3 {word}\n4 5\n"]:
                self.refused(text)

    def test_no_line_feed_at_the_end(self):
        for points, text in TEXTS:
            if points:
                self.refused(text[:-1])
                self.refused(text + "1")
                self.refused(text + " ")
        self.refused("0")
        self.refused(" ")

    def test_empty_lines(self):
        for points, text in TEXTS:
            self.refused(text + "\n")
            self.refused("\n" + text)
        for text in ["\n", "\n\n", "\n" * 40, "1\n\n2\n", " \n", "1\n \n2\n"]:
            self.refused(text)

    def test_blanks(self):
        for text in ["1  2\n", "1 2 \n", " 1 2\n", "1 2\n 3 4\n", "1 2\n3 4 \n", "1 \n", " 1\n", "1 2  3\n", "1   2\n", "1\t2\n", "1\n 2\n", "1\r\n"]:
            self.refused(text)

    def test_lines_of_other_directions(self):
        for text in ["1\n1 2\n", "1 2\n1\n", "1 2 3\n1 2\n", "1 2\n1 2 3\n", "1\n2\n3\n4 5\n", "1 2 3 4\n", "1 2 3 4\n" * 2, "0 0 0 0 0\n"]:
            self.refused(text)

    def test_more_than_forty_lines(self):
        for line in ("0\n", "1/2 -3\n", "1 2 3\n"):
            self.assertEqual(len(read(line * 40)), 40)
            self.refused(line * 41)
            self.refused(line * 42)
            self.refused(line * 700)

    def test_spots_that_are_no_points(self):
        # Each place alone could be a point's, together they have a bottom or numbers that are none.
        for text in ["1/59 1/2\n", "1/7 1/9\n", "1/5 1/4 1/7\n", "10000 1/2\n", "5001 1/2\n", "200 1/51\n", "1/60 167 0\n"]:
            self.refused(text)
        for text in ["5000 1/2\n", "1/6 1/10\n", "166 1/60\n", "1/5 1/4 1/3\n"]:
            self.assertEqual(told(read(text)), text)

    def test_whatever(self):
        for thing in odd_things():
            # Two of them are texts that tell points.
            if thing not in ("", "0 1\n"):
                self.refused(thing)
        for thing in [[(0, 1)], ["0\n"], ("0\n",), {"0\n": 1}, [], (), {}, 0, 5, -HUGE, HUGE, None, True, False, (0, 1), ((0, 1),)]:
            self.refused(thing)

    def test_all_short_texts(self):
        # What is read is told by the same text again, and nothing else is read.
        right = {told_as_written(points) for points in self.few_points()}
        for size in range(5):
            for signs in itertools.product("012-/ \n", repeat=size):
                text = "".join(signs)
                try:
                    points = read(text)
                except NoText:
                    self.assertNotIn(text, right)
                else:
                    self.assertTrue(is_points(points))
                    self.assertEqual(told_as_written(points), text)

    def few_points(self):
        yield []
        for number, bottom in itertools.product(range(-22, 23), range(1, 23)):
            yield [lowest((number,), bottom)]
        for one, other in itertools.product(range(3), repeat=2):
            yield [(one, 1), (other, 1)]
            yield [(one, other, 1)]

    def test_a_sign_put_in_or_left_out(self):
        for points, text in TEXTS:
            for at in range(len(text) + 1):
                others = [text[:at] + sign + text[at:] for sign in "05 \n/-+a|"]
                others += [text[:at] + text[at + 1:], text[:at] + " " + text[at + 1:]]
                for other in others:
                    try:
                        found = read(other)
                    except NoText:
                        continue
                    self.assertTrue(is_points(found), (other, found))
                    self.assertEqual(told_as_written(found), other)


if __name__ == "__main__":
    unittest.main()
