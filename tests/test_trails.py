"""Promise 15: which trail of colours holds; and of 2 and 3 what it touches."""

import unittest

from heapsmeet.near import nearest
from heapsmeet.trails import trail_holds
from tests.support import HUGE, ask, changed, dice, held_colours, mix_places, odd_things, trail_ok, twisted

ONE = [[(1,), (-1,), (3,)], [(2,), (5,), (-3,)]]
ONE_TRAIL = (((0, 0), ((0, 1),)), ((0, 2), ((0, 3), (1, 1))))
NOUGHTS = [[(0,)], [(0,), (1,)]]
# Beside (1, 0), which stays, the others are exchanged one by one. The second mix lies at 1/5 and
# 2/5: by its numbers alone, without the bottom, it would be farther than the first.
TWO = [
    [(1, 0), (-1, 0)],
    [(2, 0), (-1, 1), (1, 1)],
    [(3, 0), (-1, -1), (3, 3), (9, 9)],
]
TWO_TRAIL = (
    ((0, 0, 0), ((0, 1),)),
    ((0, 1, 0), ((0, 3), (1, 2))),
    ((0, 1, 1), ((0, 2), (1, 1), (2, 1))),
)
THREE = [
    [(1, 1, 1), (-1, -1, -1)],
    [(2, 2, 2), (-2, 1, 1), (1, -1, 0)],
    [(3, 3, 3), (1, -2, 1), (-1, 1, 0)],
    [(4, 4, 4), (1, 1, -2), (-3, 0, 0)],
]


def walked(colours):
    """A trail by the way of 16, its shares told by nearest."""
    choice = [0] * len(colours)
    steps = []
    while True:
        chosen = [colour[k] for colour, k in zip(colours, choice)]
        shares = nearest(chosen)
        steps.append((tuple(choice), shares))
        mix = mix_places(chosen, shares)
        if not any(mix):
            return tuple(steps)
        at = min(set(range(len(colours))) - {k for k, s in shares})
        choice[at] = next(
            k for k, arrow in enumerate(colours[at]) if sum(place * n for place, n in zip(mix, arrow)) <= 0
        )


def trails():
    """Colours and a trail of them, by hand and by chance."""
    throw = dice(34)
    found = [
        (ONE, ONE_TRAIL), (TWO, TWO_TRAIL), (NOUGHTS, (((0, 0), ((0, 1),)),)), (NOUGHTS, (((0, 0), ((0, 2), (1, 3))),)),
        ([[(2,)], [(-3,)]], (((0, 0), ((0, 3), (1, 2))),)), ([[(2,)], [(-3,)]], (((0, 0), ((0, 3 * HUGE), (1, 2 * HUGE))),)),
        ([[(0, 0, 0)]] * 4, (((0, 0, 0, 0), ((3, 1),)),)), ([[(1, 1), (-1, -1)]] * 3, walked([[(1, 1), (-1, -1)]] * 3)),
        (THREE, walked(THREE)),
    ]
    for size in range(1, 7):
        for turn in range(4):
            colours = held_colours(throw, size, 60 // (size + 1) if turn == 3 else 3)
            found.append((colours, walked(colours)))
    return found


class TrailHolds(unittest.TestCase):
    def no(self, colours, thing):
        self.assertIs(ask(trail_holds, colours, thing), False, (colours, thing))

    def test_trails_that_hold(self):
        lengths = set()
        for colours, trail in trails():
            self.assertTrue(trail_ok(colours, trail), (colours, trail))
            self.assertIs(ask(trail_holds, colours, trail), True, (colours, trail))
            lengths.add(len(trail))
        self.assertLessEqual({1, 2, 3, 4}, lengths)

    def test_the_first_choice_is_nought_for_each_colour(self):
        for colours, trail in trails():
            for start in range(1, len(trail)):
                self.no(colours, trail[start:])
        # Nothing else is wrong with these.
        self.no(NOUGHTS, (((0, 1), ((0, 1),)),))
        self.no(ONE, (((1, 0), ((0, 2), (1, 1))),))
        self.no(ONE, (((2, 0), ((1, 1),)), ((0, 0), ((0, 1),)), ((0, 2), ((0, 3), (1, 1)))))

    def test_the_last_mix_is_nought(self):
        for colours, trail in trails():
            for end in range(len(trail)):
                self.no(colours, trail[:end])
        self.no(ONE, (((0, 0), ((0, 1),)),))

    def test_no_other_mix_is_nought(self):
        self.assertIs(trail_holds([[(0,), (0,)], [(0,), (1,)]], (((0, 0), ((0, 1),)),)), True)
        self.no([[(0,), (0,)], [(0,), (1,)]], (((0, 0), ((0, 1),)), ((0, 1), ((0, 1),))))
        self.no([[(0,), (0,)], [(0,), (1,)]], (((0, 0), ((1, 1),)), ((1, 0), ((0, 1),))))
        self.no(ONE, ONE_TRAIL + (((0, 2), ((0, 3), (1, 1))),))
        self.no(ONE, ONE_TRAIL + (((1, 2), ((0, 1),)),))

    def test_choices_differ_in_just_one_colour(self):
        self.no(ONE, (ONE_TRAIL[0], *ONE_TRAIL))
        self.no(ONE, (*ONE_TRAIL, ONE_TRAIL[1]))
        # Both colours that are exchanged at once had no share.
        self.assertTrue(trail_ok(TWO, TWO_TRAIL))
        self.no(TWO, (TWO_TRAIL[0], TWO_TRAIL[2]))
        for colours, trail in trails():
            for at in range(len(trail)):
                self.no(colours, (*trail[:at], trail[at], *trail[at:]))
                if len(trail) > 1:
                    self.no(colours, (*trail[:at], *trail[at + 1:]))

    def test_what_is_exchanged_had_no_share(self):
        self.no(ONE, (((0, 0), ((0, 1),)), ((1, 0), ((0, 2), (1, 1)))))
        # The last of several colours with shares is exchanged.
        colours = [[(3, 1)], [(3, -1), (-3, -1)], [(9, 0), (-3, 0)]]
        first = ((0, 0, 0), ((0, 1), (1, 1)))
        self.assertIs(trail_holds(colours, (first, ((0, 0, 1), ((0, 1), (1, 1), (2, 2))))), True)
        self.no(colours, (first, ((0, 1, 0), ((0, 1), (1, 1)))))

    def test_each_square_is_less(self):
        # Exchanged for an arrow that isn't needed, the mix stays as it was.
        self.no(ONE, (((0, 0), ((0, 1),)), ((0, 1), ((0, 1),)), ((0, 2), ((0, 3), (1, 1)))))
        beside = (((0, 0, 2), ((0, 1),)), ((0, 1, 2), ((0, 3), (1, 2))))
        self.no(TWO, (TWO_TRAIL[0], *beside, TWO_TRAIL[2]))
        self.no(TWO, (*TWO_TRAIL[:2], beside[1], TWO_TRAIL[2]))
        start = [TWO[0], TWO[1], [TWO[2][2], *TWO[2]]]
        self.assertIs(trail_holds(start, (
            ((0, 0, 0), ((0, 1),)), ((0, 1, 0), ((0, 3), (1, 2))), ((0, 1, 2), ((0, 2), (1, 1), (2, 1))),
        )), True)

    def test_shares_are_papers_of_a_nearest_mix(self):
        for shares in [((1, 1),), ((0, 1), (1, 1)), ((0, 2), (1, 1)), (), ((0, 0),), ((0, -1),), ((2, 1),), ((0, 1), (0, 1))]:
            self.no(ONE, ((ONE_TRAIL[0][0], shares), ONE_TRAIL[1]))
        for shares in [((0, 1), (1, 3)), ((0, 3),), ((0, 3), (1, 2)), ((1, 1), (0, 3)), ((0, 3), (1, 1), (2, 1)), ((0, 4), (1, 1))]:
            self.no(ONE, (ONE_TRAIL[0], (ONE_TRAIL[1][0], shares)))
        self.assertIs(trail_holds(ONE, ((ONE_TRAIL[0][0], ((0, 7),)), ((0, 2), ((0, 6), (1, 2))))), True)

    def test_choices_that_are_none(self):
        for choice in [
            (0,), (0, 0, 0), (), (0, 3), (3, 0), (0, -1), (-3, 0), (0, HUGE), [0, 0], (0, False), (False, 0), ((0,), 0), (0, None),
            None, 0, "00", {0: 0, 1: 0}, (0, "0"), (0, (0,)),
        ]:
            self.no(ONE, ((choice, ((0, 1),)), ONE_TRAIL[1]))
            self.no(NOUGHTS, ((choice, ((0, 1),)),))
        for choice in [(0, True), (0, 3), (0, -1), (0, 2, 0), (0,), [0, 2], (False, 2)]:
            self.no(ONE, (ONE_TRAIL[0], (choice, ONE_TRAIL[1][1])))

    def test_steps_that_are_none(self):
        one, two = ONE_TRAIL
        for trail in [
            (), [one, two], (list(one), two), (one, list(two)), (one, (*two, ())), (one, two[:1]), (one, two[::-1]), (one[::-1], two),
            ((one, two),), (one, (two,)), (one, two, ()), (one, two, None), (None, one, two), one, two, (two, one), one + two,
            (one, two, one), ((one[0], one[1], one[1]), two), {0: one, 1: two}, ((), ()), ((one[0], list(one[1])), two),
        ]:
            self.no(ONE, trail)

    def test_truths_in_numbers_places(self):
        colours = [[(1,), (-1,)], [(1,), (-1,)]]
        self.assertIs(trail_holds(colours, (((0, 0), ((0, 1),)), ((0, 1), ((0, 1), (1, 1))))), True)
        for trail in [
            (((False, 0), ((0, 1),)), ((0, 1), ((0, 1), (1, 1)))), (((0, 0), ((False, 1),)), ((0, 1), ((0, 1), (1, 1)))),
            (((0, 0), ((0, True),)), ((0, 1), ((0, 1), (1, 1)))), (((0, 0), ((0, 1),)), ((0, True), ((0, 1), (1, 1)))),
            (((0, 0), ((0, 1),)), ((0, 1), ((0, 1), (True, 1)))),
        ]:
            self.no(colours, trail)

    def test_a_part_of_another_kind(self):
        for colours, trail in trails()[:12]:
            for thing in twisted(trail):
                self.no(colours, thing)

    def test_a_little_changed(self):
        seen = {True: 0, False: 0}
        for colours, trail in trails()[:14]:
            for thing in changed(trail):
                right = trail_ok(colours, thing)
                seen[right] += 1
                self.assertIs(ask(trail_holds, colours, thing), right, (colours, thing))
        self.assertGreater(seen[True], 5)

    def test_whatever(self):
        for colours, trail in ((ONE, ONE_TRAIL), (TWO, TWO_TRAIL), (NOUGHTS, (((0, 0), ((0, 1),)),))):
            for thing in odd_things():
                self.no(colours, thing)
                self.no(colours, (thing,))
                self.no(colours, (*trail, thing))
                self.no(colours, (*trail[:-1], thing))
                self.no(colours, (*trail[:-1], (thing, trail[-1][1])))
                if thing != ((0, 1),):
                    self.no(colours, (*trail[:-1], (trail[-1][0], thing)))

    def test_a_hair_nearer(self):
        # The second square is less by a hair alone, and the same holds of the last mix.
        big = 1000000
        colours = [[(big, 0)], [(big, 1), (big - 1, big), (-big, 1)], [(big, -1), (big - 1, -big), (-big, -1), (0, 0)]]
        trail = walked(colours)
        self.assertTrue(trail_ok(colours, trail))
        self.assertIs(trail_holds(colours, trail), True)
        nearer = (
            ((0, 0, 0), nearest([colours[0][0], colours[1][0], colours[2][0]])),
            ((0, 1, 0), nearest([colours[0][0], colours[1][1], colours[2][0]])),
        )
        for last in [(0, 1, 3), (0, 1, 2), (0, 0, 3)]:
            chosen = [colour[k] for colour, k in zip(colours, last)]
            thing = nearer + ((last, nearest(chosen)),)
            self.assertIs(ask(trail_holds, colours, thing), trail_ok(colours, thing))

    def test_by_names_in_any_order(self):
        self.assertIs(trail_holds(colours=ONE, thing=ONE_TRAIL), True)
        self.assertIs(trail_holds(thing=ONE_TRAIL[1:], colours=ONE), False)


if __name__ == "__main__":
    unittest.main()
