"""Promise 28: a desk, its lines, its answers and its refusals; and of 2 and 3 what they touch."""

import copy
import itertools
import unittest

from heapsmeet.allways import ways
from heapsmeet.depths import deep, depth
from heapsmeet.desk import Desk
from heapsmeet.errors import HeapsError
from heapsmeet.groups import shared_holds
from heapsmeet.heaps import heaps
from heapsmeet.heapspaper import heaps_hold
from heapsmeet.led import led_heaps, led_points
from heapsmeet.nearspots import gap
from heapsmeet.places import place
from heapsmeet.shadows import shadow, shadow_spot
from heapsmeet.sharing import few, sharing
from heapsmeet.texts import read, told
from tests.support import (
    HUGE, alike, apart_ok, depth_of, dice, lowest, odd_things, some_groups, some_points, some_spot, within_ok, without_ok,
)
from tests.test_texts import NO_PLACES, TEXTS, told_as_written

# Words that tell no number K, S or M.
NO_NUMBERS = NO_PLACES + ["1/2", "-1", "-999999", "1000000", "9999999", "9" * 50, "1" + "0" * 4400, "0" * 7]
# Words that tell no place of a desk's lines.
NO_WORDS = NO_PLACES + ["1000000", "-1000000", "1/1000000", "1000000/3", "-1000000/999999", "9" * 4400, "1/" + "3" * 4400]


def words(spot):
    """A spot's places."""
    return told_as_written([spot])[:-1]


def row_words(row):
    return " ".join(str(k) for k in row)


def rows_words(rows):
    return " | ".join(row_words(row) for row in rows)


def desk_of(points, directions=None):
    """A desk with the points, put on it by its own lines."""
    desk = Desk(directions or len(points[0]) - 1)
    for k, point in enumerate(points):
        if desk.say(f"add {words(point)}") != str(k):
            raise AssertionError("a point is not taken")
    return desk


class DeskCase(unittest.TestCase):
    def asked(self, desk, line):
        """The answer to a line that changes nothing: asked twice, with all as it was behind it."""
        ahead = desk.say("points"), desk.say("many")
        answer = desk.say(line)
        self.assertIs(type(answer), str)
        self.assertTrue(all(sign == "\n" or " " <= sign <= "~" for sign in answer))
        self.assertEqual(desk.say(line), answer, line)
        self.assertEqual((desk.say("points"), desk.say("many")), ahead, line)
        return answer

    def refused(self, desk, line, name):
        self.assertEqual(self.asked(desk, line), f"no {name}", line)

    def tells(self, refusal_or_answer):
        """What a desk should answer: what the function tells, or its refusal."""
        try:
            return refusal_or_answer()
        except HeapsError as refusal:
            return f"no {type(refusal).__name__}"


class Points(DeskCase):
    def test_none_at_first(self):
        for directions in (1, 2, 3):
            desk = Desk(directions)
            self.assertEqual(self.asked(desk, "points"), "")
            self.assertEqual(self.asked(desk, "many"), "0")

    def test_texts(self):
        for points, text in TEXTS:
            if points:
                desk = desk_of(points)
                self.assertEqual(self.asked(desk, "points"), text)
                self.assertEqual(self.asked(desk, "many"), str(len(points)))
                self.assertEqual(read(desk.say("points")), points)

    def test_add_move_and_drop(self):
        desk = Desk(2)
        for line, answer, text in [
            ("add 0 0", "0", "0 0\n"), ("add 1/2 -3", "1", "0 0\n1/2 -3\n"), ("add 0 0", "2", "0 0\n1/2 -3\n0 0\n"),
            ("move 1 7 7/3", "done", "0 0\n7 7/3\n0 0\n"), ("move 1 7 7/3", "done", "0 0\n7 7/3\n0 0\n"),
            ("drop 0", "done", "7 7/3\n0 0\n"), ("move 1 -1 -1", "done", "7 7/3\n-1 -1\n"), ("add 5 5", "2", "7 7/3\n-1 -1\n5 5\n"),
            ("drop 2", "done", "7 7/3\n-1 -1\n"), ("drop 0", "done", "-1 -1\n"), ("drop 0", "done", ""), ("add 4 4", "0", "4 4\n"),
        ]:
            self.assertEqual(desk.say(line), answer, line)
            self.assertEqual(desk.say("points"), text, line)
            self.assertEqual(desk.say("many"), str(text.count("\n")))

    def test_drop_moves_those_behind_up(self):
        for k in range(5):
            desk = desk_of([(n, 1) for n in range(5)])
            self.assertEqual(desk.say(f"drop {k}"), "done")
            self.assertEqual(desk.say("points"), "".join(f"{n}\n" for n in range(5) if n != k))

    def test_forty_points_and_one_more(self):
        for directions in (1, 2, 3):
            points = some_points(dice(130), directions, 40, 10000, 60)
            desk = desk_of(points)
            zeros = " ".join(["0"] * directions)
            self.refused(desk, f"add {zeros}", "TooMany")
            # Both are due: the one told first is answered.
            self.refused(desk, "add " + " ".join(["10001"] * directions), "NotPoint")
            self.refused(desk, "add " + " ".join(["1/61"] * directions), "NotPoint")
            self.assertEqual(desk.say(f"move 39 {zeros}"), "done")
            self.assertEqual(desk.say("points"), told_as_written(points[:39] + [(0,) * directions + (1,)]))
            self.assertEqual(desk.say("drop 3"), "done")
            self.assertEqual(desk.say(f"add {zeros}"), "39")
            self.refused(desk, f"add {zeros}", "TooMany")

    def test_not_point(self):
        desk = desk_of([(1, 1)])
        for word in ["10001", "-10001", "999999", "-999999", "1/61", "-1/999999", "999999/999998", "10001/2"]:
            self.refused(desk, f"add {word}", "NotPoint")
            self.refused(desk, f"move 0 {word}", "NotPoint")
            self.refused(desk, f"move 1 {word}", "NoPoint")
        flat = desk_of([(1, 1, 1)])
        for pair in ["1/59 1/2", "5001 1/2", "10001 0", "0 1/61", "1/7 1/9"]:
            self.refused(flat, f"add {pair}", "NotPoint")
            self.refused(flat, f"move 0 {pair}", "NotPoint")
            self.refused(flat, f"move 999999 {pair}", "NoPoint")
        for pair in ["5000 1/2", "10000 -10000", "1/60 0"]:
            self.assertEqual(flat.say(f"move 0 {pair}"), "done")
            self.assertEqual(flat.say("points"), pair + "\n")

    def test_no_point(self):
        for many in (0, 1, 3):
            desk = desk_of([(k, 1) for k in range(many)], 1)
            for k in (many, many + 1, 40, 999999):
                self.refused(desk, f"drop {k}", "NoPoint")
                self.refused(desk, f"move {k} 0", "NoPoint")
                self.refused(desk, f"share {k}", "NoPoint")
                self.refused(desk, f"gap {k} | {k}", "NoPoint")

    def test_two_desks_beside_one_another(self):
        one, other, third = Desk(1), Desk(1), Desk(3)
        self.assertEqual(one.say("add 5"), "0")
        self.assertEqual(other.say("points"), "")
        self.assertEqual(other.say("add 7"), "0")
        self.assertEqual(third.say("add 1 2 3"), "0")
        self.assertEqual(one.say("add 6"), "1")
        self.assertEqual(other.say("drop 0"), "done")
        self.assertEqual([desk.say("points") for desk in (one, other, third)], ["5\n6\n", "", "1 2 3\n"])

    def test_by_name(self):
        desk = Desk(directions=2)
        self.assertEqual(desk.say(line="add 1 2"), "0")
        self.assertEqual(desk.say(line="many"), "1")
        self.assertIn("say", vars(Desk))


class Lines(DeskCase):
    """Lines that are none, each clause broken by itself."""

    def right(self, directions):
        """Right lines, as rows of (kind of word, word)."""
        spot = [("place", word) for word in ("1", "-2/3", "0")[:directions]]
        yield [("word", "points")]
        yield [("word", "many")]
        yield [("word", "deep")]
        yield [("word", "add"), *spot]
        yield [("word", "move"), ("number", "1"), *spot]
        yield [("word", "drop"), ("number", "1")]
        yield [("word", "within"), *spot]
        yield [("word", "depth"), *spot]
        yield [("word", "check"), *spot, ("by", "by"), ("share", "0:1")]
        yield [("word", "check"), *spot, ("by", "by"), ("share", "0:1"), ("share", "1:999999")]
        yield [("word", "heaps"), ("number", "2")]
        yield [("word", "ways"), ("number", "2")]
        yield [("word", "share"), ("number", "0")]
        yield [("word", "share"), ("number", "0"), ("number", "1"), ("stroke", "|"), ("number", "2")]
        yield [("word", "gap"), ("number", "0"), ("number", "1"), ("stroke", "|"), ("number", "2")]

    def fresh(self, directions):
        return desk_of([lowest((k * k, k, -k)[:directions], 1) for k in range(4)])

    def none(self, directions, line):
        self.refused(self.fresh(directions), line, "NoWord")

    def test_right_lines_are_lines(self):
        for directions in (1, 2, 3):
            for parts in self.right(directions):
                line = " ".join(word for kind, word in parts)
                self.assertNotEqual(self.fresh(directions).say(line), "no NoWord", line)

    def test_blanks_and_line_feeds(self):
        for directions in (1, 2, 3):
            for parts in self.right(directions):
                line = " ".join(word for kind, word in parts)
                for wrong in [
                    " " + line, line + " ", line + "  ", line + "\n", "\n" + line, line + "\n\n", line + " \n",
                    line.replace(" ", "  "), line.replace(" ", "\n"), line.replace(" ", "\t"), line.replace(" ", ""), line + "\nmany",
                ]:
                    if wrong != line:
                        self.none(directions, wrong)

    def test_a_word_that_is_none(self):
        for directions in (1, 2, 3):
            for parts in self.right(directions):
                rest = [word for kind, word in parts[1:]]
                name = parts[0][1]
                for wrong in ["", name.upper(), name.title(), name + "s", name[:-1], "x", name + name, "0", "-", name + ":", "no"]:
                    self.none(directions, " ".join([wrong, *rest]))
                self.none(directions, " ".join([*rest, name]) if rest else name + " " + name)

    def test_a_part_that_is_none(self):
        wrongs = {
            "place": NO_WORDS,
            "number": NO_NUMBERS,
            "by": ["", "By", "BY", "in", "0:1", "b", "by:", "1", "|"],
            "stroke": ["", "||", "/", "x", "by", ":", "-", "1|2"],
            "share": ["", ":", "1", "1:", ":1", "1:1:1", "1:2:", "1::2", "1=2", "a:b", "1/2:1", "1:1/2", "|"]
            + [f"{word}:1" for word in NO_NUMBERS] + [f"1:{word}" for word in NO_NUMBERS],
        }
        for directions in (1, 2, 3):
            for parts in self.right(directions):
                for at, (kind, word) in enumerate(parts):
                    for wrong in wrongs.get(kind, []):
                        line = [word for kind, word in parts]
                        line[at] = wrong
                        self.none(directions, " ".join(line))

    def test_words_too_many_and_too_few(self):
        for directions in (1, 2, 3):
            for parts in self.right(directions):
                line = [word for kind, word in parts]
                name = line[0]
                if name not in ("share", "gap", "check"):
                    for more in ("0", "1", "|", "by", name, "x"):
                        for at in range(1, len(line) + 1):
                            self.none(directions, " ".join(line[:at] + [more] + line[at:]))
                    for at in range(1, len(line)):
                        self.none(directions, " ".join(line[:at] + line[at + 1:]))
                elif len(line) > 1:
                    self.none(directions, name)
        for directions in (1, 2, 3):
            other = " ".join(["1"] * (directions + 1))
            fewer = " ".join(["1"] * (directions - 1))
            for name in ("add", "move 0", "within", "depth"):
                self.none(directions, f"{name} {other}")
                self.none(directions, f"{name} {fewer}".strip())
            self.none(directions, f"check {other} by 0:1")
            self.none(directions, f"check {fewer} by 0:1".replace("  ", " "))

    def test_checks_that_are_no_lines(self):
        for line in [
            "check 1 by", "check 1 0:1", "check by 0:1", "check 1", "check", "check 1 by 0:1 by 0:1", "check 1 by by 0:1", "check 0:1 by 1",
            "check 1 by 0:1 | 1:1", "check 1 by 0:1,1:1", "check 1 by 0 1", "check 1 by 0 : 1", "check 1 by 0:1 1", "check 1 by 0:1000000",
            "check 1 by 1000000:1", "check 1 by 0:-1", "check 1 by -1:1", "check 1 by 0:01", "check 1 by 0:1 1:1000000",
        ]:
            self.none(1, line)

    def test_rows_that_are_none(self):
        for line in [
            "share", "share |", "share | 0", "share 0 |", "share 0 | | 1", "share 0 0", "share 0 1 0", "share 1 | 0 0", "share 2 1 2 | 3",
            "share 0|1", "share 0 |1", "share 0| 1", "share 0 | 1 |", "share | |", "share 0, 1", "share 0 / 1", "share -1", "share 1000000",
            "gap", "gap 0", "gap 0 1", "gap 0 |", "gap | 0", "gap |", "gap 0 | 1 | 2", "gap 0 | | 1", "gap 0 0 | 1", "gap 0 | 1 1",
            "gap 0 | 1 |", "gap | 0 | 1", "gap 0|1", "gap 0 1 2 3", "gap 0 | 1000000", "gap 0 | -1", "gap 0 | 01",
        ]:
            for directions in (1, 2, 3):
                self.none(directions, line)
        # A number twice in a row is no line, whether there is such a point or not.
        self.none(1, "share 77 77")
        self.none(1, "gap 77 77 | 1")

    def test_no_word_goes_ahead_of_all_refusals(self):
        self.none(3, "depth 1 2")
        self.none(3, "depth 1 2 01")
        self.none(1, "move 77 01")
        self.none(1, "share 77 | 01")
        self.none(1, "heaps 1000000")

    def test_things_that_are_no_lines(self):
        for directions in (1, 2, 3):
            desk = self.fresh(directions)
            for thing in [*odd_things(), ["many"], ("many",), {"many": 1}, list("many"), HUGE, -1]:
                kept = copy.deepcopy(thing)
                self.refused(desk, thing, "NoWord")
                self.assertTrue(alike(thing, kept))
        for line in ["", " ", "\n", "  ", "no", "no NoWord", "help", "say many", "many;", "many#", "0", "|", ":", "~" * 5100, " " * 5100]:
            self.refused(desk, line, "NoWord")

    def test_the_greatest_numbers_and_places(self):
        desk = self.fresh(1)
        for line, answer in [
            ("drop 999999", "no NoPoint"), ("heaps 999999", "no TooMany"), ("ways 999999", "no TooMany"), ("add 999999", "no NotPoint"),
            ("check 999999 by 999999:999999", "no"), ("depth -999999/999998", "0"), ("depth 999999/999998", "2"),
        ]:
            self.assertEqual(self.asked(desk, line), answer, line)


class Within(DeskCase):
    def told(self, desk, points, spot):
        answer = self.asked(desk, f"within {words(spot)}")
        word, *parts = answer.split(" ")
        directions = len(spot) - 1
        if word == "within":
            paper = tuple(tuple(int(part) for part in share.split(":")) for share in parts)
            self.assertTrue(within_ok(points, spot, paper), (points, spot, answer))
            if all(share <= 999999 for k, share in paper):
                self.assertEqual(self.asked(desk, f"check {words(spot)} by {' '.join(parts)}"), "yes")
        else:
            self.assertEqual(word, "without")
            self.assertEqual(len(parts), directions + 1)
            paper = tuple(int(part) for part in parts[:-1]), int(parts[-1])
            self.assertTrue(without_ok(points, spot, paper), (points, spot, answer))
        self.assertEqual((word, paper), place(points, spot))
        return word

    def test_by_hand(self):
        desk = desk_of([(0, 0, 1), (4, 0, 1), (0, 4, 1)])
        self.assertEqual(self.asked(desk, "within 4 0"), "within 1:1")
        self.assertEqual(self.asked(desk, "within 2 2"), "within 1:1 2:1")
        self.assertEqual(self.asked(desk, "within 1 1"), "within 0:2 1:1 2:1")
        self.assertEqual(self.asked(desk, "within 3 3").split(" ")[0], "without")

    def test_no_points(self):
        for spot in [(0, 1), (-999999, 999998), (1, 2, 1), (7, 7, 7, 3)]:
            self.assertEqual(self.told(Desk(len(spot) - 1), [], spot), "without")

    def test_by_chance(self):
        throw = dice(131)
        for directions in (1, 2, 3):
            seen = set()
            for turn in range(12):
                points = some_points(throw, directions, throw.choice((1, 3, 9, 40)), throw.choice((3, 10000)), throw.choice((1, 60)))
                desk = desk_of(points)
                for spot in [throw.choice(points), *some_points(throw, directions, 4, 3, 3)]:
                    seen.add(self.told(desk, points, spot))
            self.assertEqual(seen, {"within", "without"})

    def test_spots_of_the_longest_places(self):
        points = [(-10000, -10000, 1), (10000, -10000, 1), (0, 10000, 1)]
        desk = desk_of(points)
        for line in ["1/999999 1/999998", "-999997/999999 999995/999998"]:
            places = [tuple(map(int, word.split("/"))) for word in line.split(" ")]
            bottom = places[0][1] * places[1][1]
            spot = lowest([n * (bottom // b) for n, b in places], bottom)
            self.assertEqual(words(spot), line)
            self.assertEqual(self.told(desk, points, spot), "within")
        self.assertEqual(self.told(desk, points, (999999, -999999, 1)), "without")

    def test_check(self):
        desk = desk_of([(0, 0, 1), (4, 0, 1), (0, 4, 1), (4, 4, 1), (2, 2, 1)])
        for line, answer in [
            ("2 2 by 4:1", "yes"), ("2 2 by 4:999999", "yes"), ("2 2 by 0:1 3:1", "yes"), ("2 2 by 0:7 3:7", "yes"),
            ("2 2 by 1:1 2:1 4:5", "yes"), ("2 2 by 3:1 0:1", "no"), ("2 2 by 4:0", "no"), ("2 2 by 0:0 4:1", "no"),
            ("2 2 by 4:1 4:1", "no"), ("2 2 by 0:1 0:1", "no"), ("2 2 by 5:1", "no"), ("2 2 by 4:1 5:1", "no"), ("2 2 by 999999:1", "no"),
            ("2 2 by 0:1 1:1 2:1 3:1", "no"), ("2 2 by 0:1 1:1 2:1", "no"), ("2 2 by 0:1 3:2", "no"), ("2 3 by 0:1 3:1", "no"),
            ("4/3 4/3 by 0:1 1:1 2:1", "yes"), ("4/3 4/3 by 0:2 1:2 2:2", "yes"), ("4/3 1 by 0:1 1:1 2:1", "no"), ("0 0 by 0:1", "yes"),
            ("999999 0 by 0:1", "no"), ("1/999999 0 by 0:1", "no"), ("1 0 by 0:3 1:1", "yes"), ("4/999999 0 by 0:999998 1:1", "yes"),
        ]:
            self.assertEqual(self.asked(desk, f"check {line}"), answer, line)
        self.assertEqual(self.asked(Desk(1), "check 0 by 0:1"), "no")

    def test_check_of_more_shares_than_directions_and_one(self):
        for directions in (1, 2, 3):
            desk = desk_of([(0,) * directions + (1,)] * 6)
            zeros = " ".join(["0"] * directions)
            for many in range(1, 7):
                shares = " ".join(f"{k}:1" for k in range(many))
                self.assertEqual(self.asked(desk, f"check {zeros} by {shares}"), "yes" if many <= directions + 1 else "no")

    def test_check_holds_what_the_checker_holds(self):
        throw = dice(132)
        seen = set()
        for turn in range(120):
            points = some_points(throw, 2, 5, 2, 2)
            desk = desk_of(points)
            spot = some_spot(throw, 2, 1, 2)
            shares = tuple((throw.randint(0, 5), throw.randint(0, 2)) for k in range(throw.randint(1, 3)))
            if throw.random() < 0.5:
                word, shares = place(points, spot)
                if word == "without":
                    continue
            line = f"check {words(spot)} by " + " ".join(f"{k}:{s}" for k, s in shares)
            answer = self.asked(desk, line)
            self.assertEqual(answer, "yes" if within_ok(points, spot, shares) else "no")
            seen.add(answer)
        self.assertEqual(seen, {"yes", "no"})


class Heaps(DeskCase):
    def heaps_of(self, points, many):
        parting, spot, rows = heaps(points, many)
        return f"{rows_words(parting)} at {words(spot)}"

    def told(self, desk, points, many):
        answer = self.asked(desk, f"heaps {many}")
        self.assertEqual(answer, self.tells(lambda: self.heaps_of(points, many)))
        if answer.startswith("no "):
            return answer
        parting, places = answer.split(" at ")
        parting = [tuple(map(int, row.split(" "))) for row in parting.split(" | ")]
        self.assertEqual(len(parting), many)
        self.assertEqual(sorted(k for row in parting for k in row), list(range(len(points))))
        spot = heaps(points, many)[1]
        self.assertEqual(places, words(spot))
        for row in parting:
            self.assertEqual(list(row), sorted(row))
            word, shares = place([points[k] for k in row], spot)
            self.assertEqual(word, "within")
        return answer

    def test_by_hand(self):
        desk = desk_of([(0, 0, 1), (4, 0, 1), (4, 4, 1), (0, 4, 1)])
        self.assertIn(self.asked(desk, "heaps 2"), ("0 2 | 1 3 at 2 2", "1 3 | 0 2 at 2 2"))
        self.assertRegex(self.asked(desk, "heaps 1"), "^0 1 2 3 at ")
        self.assertEqual(self.asked(desk_of([(3, 2)]), "heaps 1"), "0 at 3/2")

    def test_zero_one_two_and_great_ones(self):
        throw = dice(133)
        for directions in (1, 2, 3):
            most = {1: 7, 2: 5, 3: 4}[directions]
            for count in (1, 3, 5, 13, 16, 20):
                points = some_points(throw, directions, count, 20, 3)
                desk = desk_of(points)
                self.assertEqual(self.told(desk, points, 0), "no TooFew")
                for many in (1, 2, 3, most):
                    self.assertEqual(self.told(desk, points, many) == "no TooFew", count < (many - 1) * (directions + 1) + 1)
                for many in (most + 1, most + 2, 40, 999999):
                    self.assertEqual(self.told(desk, points, many), "no TooMany")

    def test_no_points(self):
        for directions in (1, 2, 3):
            desk = Desk(directions)
            for many in (0, 1, 2, 7, 8, 999999):
                self.refused(desk, f"heaps {many}", "TooFew")
            self.refused(desk, "deep", "TooFew")
            for many in (2, 3):
                self.assertEqual(self.asked(desk, f"ways {many}"), "0")

    def test_forty_points(self):
        for directions in (1, 2, 3):
            desk = desk_of(some_points(dice(134), directions, 40, 100, 3))
            self.refused(desk, "heaps 0", "TooFew")
            self.refused(desk, "heaps 8", "TooMany")
            self.refused(desk, "deep", "TooMany")
            self.refused(desk, "ways 2", "TooMany")

    def test_papers_led_and_in_shadows(self):
        throw = dice(135)
        points = some_points(throw, 3, 9, 9, 2)
        desk = desk_of(points)
        answer = self.told(desk, points, 3)
        paper = heaps(read(desk.say("points")), 3)
        self.assertEqual(answer, f"{rows_words(paper[0])} at {words(paper[1])}")
        table, shift = ((1, 2, 0), (0, 1, 5), (3, 0, 1)), (4, -4, 100)
        self.assertIs(heaps_hold(led_points(points, table, shift), 3, led_heaps(paper, table, shift)), True)
        for kept in [(0,), (1,), (2,), (0, 1), (0, 2), (1, 2), (0, 1, 2)]:
            seen = (paper[0], shadow_spot(paper[1], kept), paper[2])
            self.assertIs(heaps_hold(shadow(points, kept), 3, seen), True)

    def test_ways(self):
        throw = dice(136)
        desk = desk_of([(0, 1), (1, 1), (2, 1)])
        self.assertEqual(self.asked(desk, "ways 2"), "1")
        self.assertEqual(self.asked(desk_of([(0, 0, 1), (4, 0, 1), (4, 4, 1), (0, 4, 1)]), "ways 2"), "1")
        for directions in (1, 2, 3):
            for count in (1, 2, 3, 5, 7, 8):
                points = some_points(throw, directions, count, 4, 1)
                desk = desk_of(points)
                for many in (0, 1, 2, 3, 4, 999999):
                    if (count, many) != (7, 3):
                        answer = self.asked(desk, f"ways {many}")
                        self.assertEqual(answer, self.tells(lambda: str(len(ways(points, many)))))
                        self.assertEqual(answer == "no TooMany", count > 7 or many not in (2, 3))
        points = [(0, 0, 1)] * 7
        # All points alike: each parting of seven into three heaps shares their spot.
        self.assertEqual(desk_of(points).say("ways 3"), "301")

    def test_deep(self):
        throw = dice(137)
        for directions, most in ((1, 7), (2, 5), (3, 4)):
            for count in (1, 2, directions + 1, directions + 2, 9, most * (directions + 1), most * (directions + 1) + 1):
                points = some_points(throw, directions, count, 9, 3)
                answer = self.asked(desk_of(points), "deep")
                self.assertEqual(answer, self.tells(lambda: words(deep(points)[1])))
                self.assertEqual(answer == "no TooMany", count > most * (directions + 1))
                if directions < 3 and answer != "no TooMany":
                    self.assertGreaterEqual(depth_of(points, deep(points)[1]), -(-count // (directions + 1)))


class Depth(DeskCase):
    def test_by_hand(self):
        desk = desk_of([(0, 0, 1), (4, 0, 1), (4, 4, 1), (0, 4, 1)])
        for places, number in [("2 2", 2), ("0 0", 1), ("2 0", 1), ("5 5", 0), ("1 2", 1), ("999999 -999999", 0), ("1/999999 1/999999", 1)]:
            self.assertEqual(self.asked(desk, f"depth {places}"), str(number), places)

    def test_no_points(self):
        self.assertEqual(self.asked(Desk(1), "depth 0"), "0")
        self.assertEqual(self.asked(Desk(2), "depth 1/2 0"), "0")
        self.refused(Desk(3), "depth 0 0 0", "NoDepth")

    def test_in_space(self):
        desk = desk_of(some_points(dice(138), 3, 9))
        self.refused(desk, "depth 0 0 0", "NoDepth")
        self.refused(desk, "depth 1/2 -1 999999", "NoDepth")

    def test_by_chance(self):
        throw = dice(139)
        for directions in (1, 2):
            for turn in range(12):
                points = some_points(throw, directions, throw.choice((1, 5, 20)), 4, 2)
                desk = desk_of(points)
                for spot in [throw.choice(points), some_spot(throw, directions, 3, 3)]:
                    answer = self.asked(desk, f"depth {words(spot)}")
                    self.assertEqual(answer, str(depth_of(points, spot)))
                    self.assertEqual(answer, str(depth(points, spot)[0]))


class Share(DeskCase):
    def share_of(self, points, groups):
        found = few(points, groups)
        if found is not None:
            chosen = [groups[k] for k in found[0]]
            self.assertTrue(apart_ok(points, chosen, found[1]))
            return f"apart {row_words(found[0])}"
        word, paper = sharing(points, groups)
        self.assertEqual(word, "shared")
        self.assertIs(shared_holds(points, groups, paper), True)
        return f"at {words(paper[0])}"

    def told(self, desk, points, groups):
        answer = self.asked(desk, f"share {rows_words(groups)}")
        self.assertEqual(answer, self.tells(lambda: self.share_of(points, groups)), groups)
        return answer

    def test_by_hand(self):
        desk = desk_of([(0, 0, 1), (4, 0, 1), (4, 4, 1), (0, 4, 1), (1, 1, 2)])
        for line, answer in [
            ("0 2 | 1 3", "at 2 2"), ("0 1 | 2 3", "apart 0 1"), ("4", "at 1/2 1/2"), ("0 1 | 1 2 | 2 3", "apart 0 2"),
            ("0 1 | 1 2 | 0 2", "apart 0 1 2"), ("0 2 | 0 2 | 4", "at 1/2 1/2"), ("0 | 1 | 2", "apart 0 1"),
            ("0 1 2 3 | 4", "at 1/2 1/2"), ("0 1 2 3 | 4 | 0 2 | 1 3", "apart 1 3"),
        ]:
            self.assertEqual(self.asked(desk, f"share {line}"), answer, line)

    def test_rows_out_of_order_and_alike(self):
        points = [(0, 0, 1), (4, 0, 1), (4, 4, 1), (0, 4, 1), (1, 1, 2)]
        desk = desk_of(points)
        self.assertEqual(self.asked(desk, "share 2 0 | 3 1"), "at 2 2")
        self.assertEqual(self.asked(desk, "share 3 2 1 0 | 4"), "at 1/2 1/2")
        self.assertEqual(self.asked(desk, "gap 1 0 | 3 2"), "16/1")
        self.assertEqual(self.asked(desk, "share 1 0 | 0 1"), self.asked(desk, "share 0 1 | 0 1"))
        for rows in itertools.permutations((0, 1, 4)):
            self.assertEqual(self.asked(desk, f"share {row_words(rows)}"), self.asked(desk, "share 0 1 4"))
            self.assertEqual(self.asked(desk, f"gap {row_words(rows)} | 2"), self.asked(desk, "gap 0 1 4 | 2"))
        # Rows stay in the order in which they are told.
        self.assertEqual(self.asked(desk, "share 2 3 | 0 1 2 3 | 1 0"), "apart 0 2")

    def test_no_point_goes_ahead_of_too_many(self):
        desk = desk_of([(k, 1) for k in range(40)])
        full = row_words(range(40))
        self.refused(desk, f"gap {full} | {full}", "TooMany")
        self.refused(desk, f"gap {full} | {full} 40", "NoPoint")
        self.refused(desk, "share " + " | ".join(["0"] * 12), "TooMany")
        self.refused(desk, "share " + " | ".join(["0"] * 12 + ["40"]), "NoPoint")
        self.refused(desk, "share " + " | ".join([full] * 11), "TooMany")
        self.refused(desk, "share " + " | ".join([full] * 10 + ["41"]), "NoPoint")

    def test_the_most_rows(self):
        for directions, most in ((1, 11), (2, 7), (3, 6)):
            points = some_points(dice(140), directions, 40, 9, 2)
            desk = desk_of(points)
            self.assertEqual(self.asked(desk, "share " + " | ".join(["5"] * most)), f"at {words(points[5])}")
            self.refused(desk, "share " + " | ".join(["5"] * (most + 1)), "TooMany")
            self.refused(desk, "share " + " | ".join(["5"] * 500), "TooMany")
        # Four hundred points in all, and one more.
        desk = desk_of([(k, 1) for k in range(40)])
        full = row_words(range(40))
        self.assertRegex(self.asked(desk, "share " + " | ".join([full] * 10)), "^at ")
        self.refused(desk, "share " + " | ".join([full] * 10 + ["0"]), "TooMany")

    def test_by_chance(self):
        throw = dice(141)
        seen = set()
        for directions in (1, 2, 3):
            for turn in range(25):
                points = some_points(throw, directions, 8, 4, 2)
                desk = desk_of(points)
                groups = some_groups(throw, 8, throw.randint(1, 5), throw.choice((2, 4, 8)))
                seen.add(self.told(desk, points, groups).split(" ")[0])
        self.assertEqual(seen, {"at", "apart"})

    def test_gap(self):
        desk = desk_of([(0, 0, 1), (4, 0, 1), (4, 4, 1), (0, 4, 1), (1, 1, 2)])
        for line, answer in [
            ("0 1 | 2 3", "16/1"), ("0 | 1", "16/1"), ("0 2 | 1 3", "0/1"), ("0 | 4", "1/2"), ("0 | 0", "0/1"), ("0 1 | 1", "0/1"),
            ("0 2 | 1", "8/1"), ("2 | 0 4", "49/2"), ("0 1 2 3 | 4", "0/1"),
        ]:
            self.assertEqual(self.asked(desk, f"gap {line}"), answer, line)

    def test_gap_by_chance(self):
        throw = dice(142)
        for directions in (1, 2, 3):
            for turn in range(20):
                points = some_points(throw, directions, 8, throw.choice((4, 10000)), throw.choice((2, 60)))
                one, other = some_groups(throw, 8, 2, 4)
                answer = self.asked(desk_of(points), f"gap {row_words(one)} | {row_words(other)}")
                self.assertEqual(answer, "{}/{}".format(*gap(points, one, other)))


class Walks(DeskCase):
    """Points added, moved and dropped between questions."""

    def test_a_point_moved_between_questions(self):
        desk = desk_of([(0, 1), (4, 1), (1, 1)])
        self.assertEqual(desk.say("deep"), "1")
        self.assertEqual(desk.say("gap 0 | 1 2"), "1/1")
        self.assertEqual(desk.say("move 2 9"), "done")
        self.assertEqual(desk.say("deep"), "4")
        self.assertEqual(desk.say("gap 0 | 1 2"), "16/1")
        self.assertEqual(desk.say("drop 1"), "done")
        self.assertEqual(desk.say("gap 0 | 1"), "81/1")
        self.refused(desk, "gap 0 | 2", "NoPoint")
        self.refused(desk, "heaps 2", "TooFew")
        self.assertEqual(desk.say("add 5"), "2")
        self.assertEqual(desk.say("heaps 2"), self.tells(lambda: Heaps().heaps_of([(0, 1), (9, 1), (5, 1)], 2)))

    def deed(self, throw, points, directions):
        """A line that may change the points, its answer, and the points behind it."""
        spot = some_spot(throw, directions, 12, 4) if throw.random() < 0.8 else some_spot(throw, directions, 20000, 99)
        fits = spot[-1] <= 60 and all(-10000 <= n <= 10000 for n in spot[:-1])
        k = throw.randint(0, len(points))
        word = throw.choice(("add", "add", "add", "move", "drop"))
        if word == "add":
            return f"add {words(spot)}", str(len(points)) if fits else "no NotPoint", points + [spot] * fits
        line = f"move {k} {words(spot)}" if word == "move" else f"drop {k}"
        if k == len(points):
            return line, "no NoPoint", points
        if word == "drop":
            return line, "done", points[:k] + points[k + 1:]
        return line, "done" if fits else "no NotPoint", points[:k] + [spot if fits else points[k]] + points[k + 1:]

    def question(self, throw, points, directions):
        """A question, and its answer by the other modules."""
        spot = some_spot(throw, directions, 5, 3)
        many = throw.randint(0, 4)
        questions = [
            ("points", lambda: told(points)), ("many", lambda: str(len(points))),
            (f"depth {words(spot)}", lambda: str(depth(points, spot)[0])), ("deep", lambda: words(deep(points)[1])),
            (f"heaps {many}", lambda: Heaps().heaps_of(points, many)),
        ]
        if len(points) != 7:
            questions.append((f"ways {many}", lambda: str(len(ways(points, many)))))
        if points:
            one, other = some_groups(throw, len(points), 2, 5)
            questions.append((f"gap {rows_words([one, other])}", lambda: "{}/{}".format(*gap(points, one, other))))
            questions.append((f"share {rows_words([one, other])}", lambda: Share().share_of(points, [one, other])))
        line, answer = throw.choice(questions)
        return line, self.tells(answer)

    def test_long_walks(self):
        throw = dice(143)
        for directions in (1, 2, 3):
            desk, points = Desk(directions), []
            for turn in range(150):
                line, answer, points = self.deed(throw, points, directions)
                self.assertEqual(desk.say(line), answer, line)
                self.assertEqual(desk.say("points"), told_as_written(points))
                for again in range(2):
                    line, answer = self.question(throw, points, directions)
                    self.assertEqual(self.asked(desk, line), answer, line)
                if len(points) > 14:
                    for again in range(10):
                        desk.say("drop 2")
                        points = points[:2] + points[3:]


if __name__ == "__main__":
    unittest.main()
