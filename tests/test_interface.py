"""The interface: each name, its arguments by place and by name in any order; and promise 2 over the whole program."""

import copy
import importlib
import inspect
import itertools
import unittest

from tests.support import alike

SQUARE = [(0, 0, 1), (4, 0, 1), (4, 4, 1), (0, 4, 1)]
SPOT = (2, 2, 1)
GROUPS = [(0, 2), (1, 3)]
COLOURS = [(0, 2), (1, 3), (0, 1, 2)]
SHARED = (SPOT, (((0, 1), (2, 1)), ((1, 1), (3, 1))))
HEAPS = (((0, 2), (1, 3)), *SHARED)
ARROWS = [(1, 0), (-1, 0), (0, 3)]
TRAIL_COLOURS = [[(1,), (-1,)], [(2,), (-3,)]]
TABLE = ((1, 2), (0, 3))

# Each name of the interface, its arguments in their order, and a call.
CALLS = {
    "spots": [
        ("is_spot", {"thing": SPOT}), ("is_points", {"thing": SQUARE}), ("spot_at", {"numbers": (2, 4), "bottom": -6}),
    ],
    "shares": [("is_shares", {"many": 3, "thing": ((0, 1), (2, 5))}), ("mixed", {"points": SQUARE, "shares": ((0, 1), (2, 2))})],
    "ties": [
        ("tie_holds", {"points": SQUARE, "thing": (1, -1, 1, -1)}), ("is_plain", {"points": SQUARE}), ("tie", {"points": SQUARE}),
    ],
    "arrows": [
        ("mix_of", {"arrows": ARROWS, "shares": ((0, 1), (2, 1))}), ("near_holds", {"arrows": ARROWS, "thing": ((0, 1), (1, 1))}),
    ],
    "near": [("nearest", {"arrows": ARROWS})],
    "hulls": [
        ("within_holds", {"points": SQUARE, "spot": SPOT, "thing": ((0, 1), (2, 1))}),
        ("without_holds", {"points": SQUARE, "spot": (9, 0, 1), "thing": ((1, 0), 4)}),
    ],
    "places": [("place", {"points": SQUARE, "spot": SPOT})],
    "groups": [
        ("shared_holds", {"points": SQUARE, "groups": GROUPS, "thing": SHARED}),
        ("apart_holds", {"points": SQUARE, "groups": [(0, 1), (2, 3)], "thing": (((0, 1), 0), ((0, -1), -4))}),
    ],
    "sharing": [("sharing", {"points": SQUARE, "groups": GROUPS}), ("few", {"points": SQUARE, "groups": [(0, 1), (2, 3)]})],
    "heapspaper": [("heaps_hold", {"points": SQUARE, "many": 2, "thing": HEAPS}), ("enough", {"directions": 2, "many": 5})],
    "signs": [("by_signs", {"points": SQUARE, "numbers": (1, -1, 1, -1)}), ("two_heaps", {"points": SQUARE})],
    "trails": [("trail_holds", {"colours": TRAIL_COLOURS, "thing": (((0, 0), ((0, 1),)), ((0, 1), ((0, 3), (1, 1))))})],
    "exchanges": [("exchanged", {"colours": TRAIL_COLOURS})],
    "heaps": [
        ("lifted", {"points": SQUARE, "many": 2}),
        ("by_choice", {"points": [(1, 1), (5, 1), (3, 1)], "many": 2, "choice": (0, 0, 1), "shares": ((0, 1), (1, 1), (2, 2))}),
        ("heaps", {"points": SQUARE, "many": 2}),
    ],
    "allways": [("ways", {"points": SQUARE, "many": 2})],
    "cuts": [
        ("shows", {"points": SQUARE, "spot": SPOT, "cut": (1, 1)}), ("depth_holds", {"points": SQUARE, "spot": SPOT, "thing": (2, (2, 1))}),
    ],
    "depths": [("depth", {"points": SQUARE, "spot": SPOT}), ("deep", {"points": SQUARE})],
    "gaps": [("gap_holds", {"points": SQUARE, "one": (0,), "other": (1, 2), "thing": (((0, 1),), ((1, 1),))})],
    "nearspots": [
        ("near_spots", {"points": SQUARE, "one": (0,), "other": (1, 2)}), ("gap", {"points": SQUARE, "one": (0,), "other": (1, 2)}),
    ],
    "rainbows": [("rainbow_holds", {"points": SQUARE, "colours": COLOURS, "spot": SPOT, "thing": ((0, 1, 2), ((0, 1), (2, 1)))})],
    "choosing": [("rainbow", {"points": SQUARE, "colours": COLOURS, "spot": SPOT})],
    "shadows": [
        ("shadow_spot", {"spot": SPOT, "kept": (1,)}), ("shadow", {"points": SQUARE, "kept": (0,)}),
        ("led_back", {"wall": ((5,), 3), "kept": (1,), "directions": 2}),
    ],
    "led": [
        ("led_spot", {"spot": SPOT, "table": TABLE, "shift": (1, -1)}), ("led_points", {"points": SQUARE, "table": TABLE, "shift": (1, -1)}),
        ("led_shared", {"paper": SHARED, "table": TABLE, "shift": (1, -1)}), ("led_heaps", {"paper": HEAPS, "table": TABLE, "shift": (1, -1)}),
        ("wall_led", {"wall": ((1, 2), 3), "table": TABLE, "shift": (1, -1)}),
    ],
    "texts": [("told", {"points": SQUARE}), ("read", {"thing": "1 2\n3/2 0\n"})],
}
CHECKERS = [name for module in CALLS for name, args in CALLS[module] if "thing" in args and name != "read"]


def functions():
    for module, calls in CALLS.items():
        for name, named in calls:
            yield getattr(importlib.import_module(f"heapsmeet.{module}"), name), named


class Interface(unittest.TestCase):
    def test_all_functions_are_there(self):
        names = [function.__name__ for function, named in functions()]
        self.assertEqual(len(names), len(set(names)))
        self.assertEqual(len(names), 47)

    def test_arguments_have_their_names_and_places(self):
        for function, named in functions():
            given = inspect.signature(function).parameters
            self.assertEqual(list(given), list(named), function)
            for argument in given.values():
                self.assertIs(argument.kind, inspect.Parameter.POSITIONAL_OR_KEYWORD, function)
                self.assertIs(argument.default, inspect.Parameter.empty, function)

    def test_by_place_and_by_name_in_any_order(self):
        for function, named in functions():
            answer = function(*named.values())
            for order in itertools.permutations(named):
                self.assertTrue(alike(function(**{name: named[name] for name in order}), answer), (function, order))
            for many in range(1, len(named)):
                first = list(named.values())[:many]
                rest = {name: named[name] for name in list(named)[many:]}
                self.assertTrue(alike(function(*first, **rest), answer), function)

    def test_checkers_answer_true_or_false_themselves(self):
        seen = 0
        for function, named in functions():
            if function.__name__ in CHECKERS or function.__name__ == "is_plain":
                seen += 1
                answer = function(**named)
                self.assertIs(answer, True, function)
                if "thing" in named:
                    for thing in (None, (), [], {}, "", 0, True, ((),)):
                        self.assertIs(function(**{**named, "thing": thing}), alike(thing, []) and function.__name__ == "is_points")
        self.assertEqual(seen, 15)

    def test_nothing_is_written_into_what_is_handed_in(self):
        for function, named in functions():
            kept = copy.deepcopy(named)
            function(**named)
            self.assertTrue(alike(named, kept), function)

    def test_what_is_told_is_the_askers_own(self):
        for function, named in functions():
            first, second = function(**named), function(**named)
            kept = copy.deepcopy(second)
            for part in self.lists_of(first):
                part.append("more")
            self.assertTrue(alike(second, kept), function)
            self.assertTrue(alike(function(**named), kept), function)

    def lists_of(self, thing):
        if isinstance(thing, (list, tuple)):
            for part in thing:
                yield from self.lists_of(part)
        if isinstance(thing, list):
            yield thing

    def test_what_is_told_does_not_hang_on_what_is_handed_in(self):
        for function, named in functions():
            given = copy.deepcopy(named)
            answer = function(**given)
            kept = copy.deepcopy(answer)
            for part in given.values():
                for inner in list(self.lists_of(part)):
                    inner.clear()
            self.assertTrue(alike(answer, kept), function)

    def test_papers_are_rows_throughout(self):
        makers = {
            "tie", "nearest", "place", "sharing", "few", "by_signs", "two_heaps", "exchanged", "by_choice", "heaps", "depth", "deep",
            "near_spots", "gap", "rainbow", "led_shared", "led_heaps", "wall_led", "led_back", "spot_at", "mixed", "mix_of",
        }
        seen = set()
        for function, named in functions():
            if function.__name__ in makers:
                seen.add(function.__name__)
                answer = function(**named)
                self.assertIs(type(answer), tuple)
                self.assertEqual(list(self.lists_of(answer)), [], function)
        self.assertEqual(seen, makers)

    def test_the_desk(self):
        module = importlib.import_module("heapsmeet.desk")
        self.assertEqual(list(inspect.signature(module.Desk).parameters), ["directions"])
        self.assertIn("say", vars(module.Desk))
        self.assertEqual(list(inspect.signature(module.Desk.say).parameters)[1:], ["line"])
        self.assertEqual(module.Desk(directions=1).say(line="many"), module.Desk(1).say("many"))

    def test_the_errors(self):
        module = importlib.import_module("heapsmeet.errors")
        for name in ["TooMany", "TooFew", "NoDepth", "Flat", "NoText", "NoPoint", "NotPoint"]:
            error = getattr(module, name)
            self.assertEqual(error.__bases__, (module.HeapsError,))
            self.assertIsInstance(error(), ValueError)
        self.assertEqual(list(inspect.signature(module.NotHeld).parameters), ["colour"])
        self.assertEqual(module.NotHeld(colour=4).colour, 4)


if __name__ == "__main__":
    unittest.main()
