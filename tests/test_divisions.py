"""Point [31]: who moves between two leagues, who is sure to, and who still may."""

import random
import unittest

from stillmay.divisions import may_down, may_up, moved, sure_down, sure_up
from stillmay.errors import BadValue, TooMany
from stillmay.leagues import League
from tests.helper import (EIGHT, NO_STRINGS, PLAIN, TRIO, WITH_DRAWS, caught, deep, drawn_league, expect, made,
                          snapshot, told_order, told_results, with_left)

LOWER = ("ivy", "rye", "hop", "nut")
GAMES = [("elm", "ash", "home"), ("oak", "elm", "draw"), ("fir", "ash", "away")]
CALLS = (sure_up, may_up, sure_down, may_down)


def other_names(league):
    """The same league with other names."""
    names = {side: side + "x" for side in league.sides()}
    twin = League([names[side] for side in league.sides()], league.scheme(), league.rules())
    for home, away, state in league.games():
        number = twin.add_game(names[home], names[away])
        if state == "off":
            twin.call_off(number)
        elif state != "left":
            twin.enter(number, state)
    for side in league.withdrawn():
        twin.withdraw(names[side])
    return twin


def told_places(league):
    """For each side, in the order of sides, its places behind all endings."""
    return [[place for ending, place, points in told_results(league, side)] for side in league.sides()]


def told_four(league, many):
    """What the four calls are to give, out of a slow trying of all endings."""
    kept = len(league.sides()) - many
    places = told_places(league)
    tests = (lambda row: all(place <= many for place in row), lambda row: any(place <= many for place in row),
             lambda row: all(place > kept for place in row), lambda row: any(place > kept for place in row))
    return [tuple(side for side, row in zip(league.sides(), places) if test(row)) for test in tests]


class MovedTest(unittest.TestCase):
    def setUp(self):
        # In order: elm, ash, oak, fir; rye, ivy, hop, nut.
        self.upper = made(EIGHT[:4], games=GAMES)
        self.lower = made(LOWER, games=[("rye", "ivy", "home"), ("ivy", "nut", "draw"), ("hop", "rye", "left")])

    def test_each_many(self):
        due = ((("elm", "ash", "oak", "fir"), ("rye", "ivy", "nut", "hop")),
               (("elm", "ash", "oak", "rye"), ("fir", "ivy", "nut", "hop")),
               (("elm", "ash", "rye", "ivy"), ("oak", "fir", "nut", "hop")),
               (("elm", "rye", "ivy", "nut"), ("ash", "oak", "fir", "hop")))
        for many, pair in enumerate(due):
            self.assertEqual(pair, moved(self.upper, self.lower, many))

    def test_tuples_within(self):
        for many in (0, 2):
            found = moved(self.upper, self.lower, many)
            self.assertEqual((tuple,) * 3, (found.__class__, found[0].__class__, found[1].__class__))

    def test_leagues_are_not_changed(self):
        before = snapshot(self.upper), snapshot(self.lower)
        for many in (0, 3, 4, None):
            caught(moved, self.upper, self.lower, many)
        self.assertEqual(before, (snapshot(self.upper), snapshot(self.lower)))

    def test_games_left_and_sides_withdrawn(self):
        self.upper.withdraw("elm")
        self.lower.withdraw("rye")
        # Those who have withdrawn stand where they stand without points.
        due = ("ash", "elm", "ivy", "nut"), ("oak", "fir", "rye", "hop")
        self.assertEqual(due, moved(self.upper, self.lower, 2))
        for number in range(20):
            self.lower.add_game("hop", "nut")
        self.assertEqual(due, moved(self.upper, self.lower, 2))

    def test_leagues_of_two_sizes(self):
        small = made(("box", "bay"))
        self.assertEqual((("elm", "ash", "oak", "box"), ("fir", "bay")), moved(self.upper, small, 1))
        self.assertEqual((("box", "elm"), ("bay", "ash", "oak", "fir")), moved(small, self.upper, 1))
        for many in (2, 3):
            expect(self, BadValue, "at", 2, moved, self.upper, small, many)
            expect(self, BadValue, "at", 2, moved, small, self.upper, many)

    def test_many_leagues(self):
        for seed in range(80):
            upper, lower = drawn_league(seed), other_names(drawn_league(seed + 500))
            above, below = told_order(upper, upper.games()), told_order(lower, lower.games())
            for many in range(min(len(above), len(below))):
                due = (above[:len(above) - many] + below[:many], above[len(above) - many:] + below[many:])
                self.assertEqual(due, moved(upper, lower, many))

    def test_a_common_side(self):
        for sides in (EIGHT[:4], ("ivy", "rye", "fir"), ("ash", "ivy")):
            for many in (0, 1, 2, 4, -1, None):
                expect(self, BadValue, "at", 1, moved, self.upper, made(sides), many)
        expect(self, BadValue, "at", 1, moved, self.upper, self.upper, 0)
        gone = made(("fir", "ivy"))
        gone.withdraw("fir")
        expect(self, BadValue, "at", 1, moved, self.upper, gone, 0)

    def test_what_is_no_many(self):
        values = [value for value in NO_STRINGS if value not in (0, 1) or isinstance(value, bool)]
        for many in values + [4, 5, "1", "", deep(40)]:
            expect(self, BadValue, "at", 2, moved, self.upper, self.lower, many)


class SureAndMayTest(unittest.TestCase):
    def check(self, league, many):
        self.assertEqual(told_four(league, many), [call(league, many) for call in CALLS], (snapshot(league), many))

    def test_the_example(self):
        league = made(TRIO, games=[("elm", "ash", "home"), ("elm", "oak", "home"), ("ash", "oak", "left")])
        self.assertEqual((("elm",), ("elm",)), (sure_up(league, 1), may_up(league, 1)))
        self.assertEqual((("elm",), TRIO), (sure_up(league, 2), may_up(league, 2)))
        # Whichever of ash and oak does not win is the last one; behind a draw it is oak, by the lots.
        self.assertEqual(((), ("ash", "oak")), (sure_down(league, 1), may_down(league, 1)))
        self.assertEqual((("ash", "oak"), ("ash", "oak")), (sure_down(league, 2), may_down(league, 2)))

    def test_told_in_the_order_of_sides(self):
        league = made(TRIO, games=[("oak", "ash", "home"), ("oak", "elm", "home"), ("elm", "ash", "home")])
        self.assertEqual(("elm", "oak"), sure_up(league, 2))
        self.assertEqual(("elm", "oak"), may_up(league, 2))
        self.assertEqual(("ash", "elm"), sure_down(league, 2))
        self.assertEqual(("ash", "elm"), may_down(league, 2))

    def test_many_0(self):
        for league in (made(), made(EIGHT, games=GAMES), with_left(8, TRIO)):
            for call in CALLS:
                self.assertEqual((), call(league, 0))

    def test_all_endings(self):
        differing = 0
        for seed in range(60):
            league = drawn_league(seed, 4)
            for many in range(len(league.sides())):
                self.check(league, many)
                differing += len(set(told_four(league, many))) == 4
        self.assertGreater(differing, 20)

    def test_no_game_left(self):
        for seed in range(30):
            league = drawn_league(seed, 0)
            for many in range(len(league.sides())):
                self.check(league, many)
                self.assertEqual(sure_up(league, many), may_up(league, many))
                self.assertEqual(sure_down(league, many), may_down(league, many))

    def test_withdrawn_sides_are_sides(self):
        league = made(TRIO, games=[("oak", "elm", "home"), ("elm", "ash", "left")])
        league.withdraw("oak")
        self.check(league, 1)
        self.check(league, 2)
        self.assertIn("oak", may_down(league, 1))

    def test_eight_games_left(self):
        league = made(TRIO, (1, None, 0), ("points", "among"),
                      games=[("ash", "elm", "left"), ("elm", "oak", "left")] * 4 + [("oak", "ash", "home")] * 3)
        self.assertEqual(8, len(league.left()))
        for many in (0, 1, 2):
            self.check(league, many)

    def test_nine_games_left(self):
        league = with_left(9)
        before = snapshot(league)
        for call in CALLS:
            for many in range(8):
                expect(self, TooMany, "word", "games", call, league, many)
            for many in (8, -1, None, "0", True):
                expect(self, BadValue, "at", 1, call, league, many)
        self.assertEqual(before, snapshot(league))
        self.assertIsNone(caught(sure_up, with_left(8, EIGHT, (1, None, 0)), 0))

    def test_what_is_no_many(self):
        league = made(TRIO, WITH_DRAWS, PLAIN, [("ash", "elm", "left")])
        before = snapshot(league)
        values = [value for value in NO_STRINGS if value not in (0, 1) or isinstance(value, bool)]
        for many in values + [3, 4, "1", "", deep(40)]:
            for call in CALLS:
                expect(self, BadValue, "at", 1, call, league, many)
        self.assertEqual(before, snapshot(league))


if __name__ == "__main__":
    unittest.main()
