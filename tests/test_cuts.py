"""Point [19]: cuts against a side, and endings that leave it in the first lot."""

import itertools
import random
import unittest

from stillmay.cuts import cut_against, cut_holds, first_lot_ending
from stillmay.errors import BadSide, BadValue, TooMany
from tests.helper import (EIGHT, NO_STRINGS, TRIO, WITH_DRAWS, WITHOUT_DRAWS, deep, drawn_league, expect, made,
                          snapshot, told_left, told_points, with_left, with_state)

CALLS = (lambda league, side: cut_against(league, side), lambda league, side: cut_holds(league, side, ()),
         lambda league, side: first_lot_ending(league, side))
OTHER_SCHEMES = (WITH_DRAWS, (1, 0, 0), (1, 1, 0), (2, None, 0), (2, None, 1), (3, 1, 0), (3, None, 0), (2, 1, 0))

# ash and elm have two points each and meet once more; oak has one, and one game against fir to come.
RACE = [("ash", "fir", "home"), ("fir", "ash", "away"), ("elm", "fir", "home"), ("fir", "elm", "away"),
        ("oak", "fir", "home"), ("ash", "elm", "left"), ("oak", "fir", "left")]


def race(games=RACE, sides=EIGHT[:4]):
    return made(sides, WITHOUT_DRAWS, ("points",), games)


def told_cut(league, side, lot):
    """Whether the lot is a cut, by the words of the document."""
    games, sides = league.games(), league.sides()
    won = [game if game[2] != "left" or side not in game[:2] else game[:2] + (("home" if game[0] == side else "away"),)
           for game in games]
    have = sum(told_points(league, games, other, sides) for other in lot)
    between = sum(state == "left" and home in lot and away in lot for home, away, state in games)
    return have + between > len(lot) * told_points(league, won, side, sides)


def told_first_cut(league, side):
    others = [other for other in league.sides() if other != side]
    for many in range(1, len(others) + 1):
        for lot in itertools.combinations(others, many):
            if told_cut(league, side, lot):
                return lot
    return None


def told_first_lot_ending(league, side):
    """The first ending, out of all of them."""
    left = told_left(league.games())
    for ending in itertools.product(("home", "away"), repeat=len(left)):
        games = league.games()
        for number, outcome in zip(left, ending):
            games = with_state(games, number, outcome)
        own = told_points(league, games, side, league.sides())
        if all(told_points(league, games, other, league.sides()) <= own for other in league.sides()):
            return ending
    return None


class CutsTest(unittest.TestCase):
    def test_the_example(self):
        league = race()
        # oak can get two, but one of ash and elm gets a third one: four and one are more than twice two.
        self.assertEqual(("ash", "elm"), cut_against(league, "oak"))
        self.assertIs(True, cut_holds(league, "oak", ("ash", "elm")))
        self.assertIs(False, cut_holds(league, "oak", ("ash",)))
        self.assertIs(False, cut_holds(league, "oak", ("ash", "elm", "fir")))
        self.assertIsNone(first_lot_ending(league, "oak"))
        self.assertEqual(("ash",), cut_against(league, "fir"))
        self.assertIsNone(cut_against(league, "ash"))
        self.assertEqual(("home", "home"), first_lot_ending(league, "ash"))
        self.assertEqual(("away", "home"), first_lot_ending(league, "elm"))
        # Without the game between the two, no cut holds.
        league.call_off(5)
        self.assertIsNone(cut_against(league, "oak"))
        self.assertIs(False, cut_holds(league, "oak", ("ash", "elm")))
        self.assertEqual(("home",), first_lot_ending(league, "oak"))

    def test_two_games_between_two_sides_count_twice(self):
        league = race(RACE[:3] + [("ash", "elm", "left"), ("elm", "ash", "left"), ("oak", "fir", "left"),
                                  ("oak", "fir", "home")])
        # ash has two, elm one, and two games between them: five are more than twice two.
        self.assertEqual(("ash", "elm"), cut_against(league, "oak"))
        league.call_off(4)
        self.assertIsNone(cut_against(league, "oak"))

    def test_games_outside_of_the_lot_do_not_count(self):
        league = race(RACE[:5] + [("ash", "oak", "left"), ("elm", "fir", "left")])
        self.assertIsNone(cut_against(league, "oak"))
        self.assertEqual(("away", "away"), first_lot_ending(league, "oak"))

    def test_the_first_one_by_size_then_by_positions(self):
        games = [("ash", "fir", "home"), ("elm", "fir", "home"), ("oak", "fir", "home")]
        league = race(games)
        self.assertEqual(("ash",), cut_against(league, "fir"))
        league = race(games, ("oak", "fir", "elm", "ash"))
        self.assertEqual(("oak",), cut_against(league, "fir"))
        # ash has one point: so has each of the pairs with a game between them, and half a point more.
        pairs = [("elm", "oak"), ("oak", "fir"), ("fir", "elm")]
        league = race([(one, "ash", "home") for one in ("elm", "oak", "fir")] + [("ash", "elm", "home")]
                      + [pair + ("left",) for pair in pairs])
        self.assertEqual(("elm", "oak"), cut_against(league, "ash"))
        for lot in itertools.combinations(("elm", "oak", "fir"), 2):
            self.assertIs(True, cut_holds(league, "ash", lot))
        league.call_off(4)
        self.assertEqual(("elm", "fir"), cut_against(league, "ash"))
        league.call_off(6)
        self.assertEqual(("oak", "fir"), cut_against(league, "ash"))

    def test_a_cut_is_told_in_the_order_of_sides(self):
        league = race(RACE, ("fir", "elm", "oak", "ash"))
        self.assertEqual(("elm", "ash"), cut_against(league, "oak"))

    def test_lots_in_any_sequence_as_tuples_and_lists(self):
        league = race()
        before = snapshot(league)
        for lot in itertools.permutations(("ash", "elm")):
            for kind in (tuple, list):
                handed = kind(lot)
                self.assertIs(True, cut_holds(league, "oak", handed))
                self.assertEqual(kind(lot), handed)
        for lot in itertools.permutations(("ash", "elm", "fir")):
            self.assertIs(False, cut_holds(league, "oak", lot))
            self.assertIs(False, cut_holds(league, "oak", list(lot)))
        self.assertEqual(before, snapshot(league))

    def test_no_sides_are_no_cut(self):
        for league in (race(), race(()), race([("ash", "elm", "home")])):
            for side in league.sides():
                self.assertIs(False, cut_holds(league, side, ()))
                self.assertIs(False, cut_holds(league, side, []))

    def test_no_game_left(self):
        league = race(RACE[:5])
        self.assertEqual(("ash",), cut_against(league, "oak"))
        self.assertIsNone(first_lot_ending(league, "oak"))
        self.assertIsNone(cut_against(league, "elm"))
        self.assertEqual((), first_lot_ending(league, "elm"))
        for side in TRIO:
            self.assertIsNone(cut_against(race((), TRIO), side))
            self.assertEqual((), first_lot_ending(race((), TRIO), side))

    def test_withdrawn_sides(self):
        league = race()
        league.withdraw("ash")
        self.assertIsNone(cut_against(league, "oak"))
        self.assertIs(False, cut_holds(league, "oak", ("ash", "elm")))
        self.assertEqual(("elm",), cut_against(league, "ash"))
        self.assertIs(True, cut_holds(league, "ash", ["elm"]))
        self.assertIs(True, cut_holds(league, "ash", ["elm", "oak"]))
        self.assertIsNone(first_lot_ending(league, "ash"))
        self.assertEqual(("home",), first_lot_ending(league, "oak"))
        league.withdraw("fir")
        # elm has nothing left of its games, all of which were against those two.
        for side in league.sides():
            self.assertIsNone(cut_against(league, side))
            self.assertEqual((), first_lot_ending(league, side))

    def test_a_withdrawn_side_may_stand_in_a_cut(self):
        league = race([("ash", "oak", "home"), ("ash", "oak", "home"), ("ash", "oak", "home"), ("fir", "elm", "left")])
        league.withdraw("fir")
        self.assertIs(True, cut_holds(league, "oak", ("fir", "ash")))
        self.assertIs(True, cut_holds(league, "elm", ("ash", "fir", "oak")))
        self.assertIs(False, cut_holds(league, "oak", ("fir",)))

    def test_against_a_slow_trying(self):
        dice = random.Random(21)
        outs = 0
        for seed in range(600, 700):
            league = drawn_league(seed, 5, WITHOUT_DRAWS)
            before = snapshot(league)
            for side in league.sides():
                cut = cut_against(league, side)
                self.assertEqual(told_first_cut(league, side), cut)
                ending = first_lot_ending(league, side)
                self.assertEqual(told_first_lot_ending(league, side), ending)
                # Just if there is a cut, it is out.
                self.assertEqual(cut is None, ending is not None)
                outs += cut is not None
                others = [other for other in league.sides() if other != side]
                for many in range(len(others) + 1):
                    for lot in itertools.combinations(others, many):
                        found = cut_holds(league, side, dice.sample(lot, many))
                        self.assertIs(bool(lot) and told_cut(league, side, lot), found)
            self.assertEqual(before, snapshot(league))
        self.assertGreater(outs, 50)

    def test_cuts_of_each_size(self):
        # A row of sides, each to play its neighbour; the first and the last one have a point already.
        for many in range(1, 7):
            row = EIGHT[1:many + 1]
            games = [("ash", "fig", "home"), (row[0], "ash", "home"), (row[-1], "ash", "home")]
            league = race(games + [(row[at], row[at + 1], "left") for at in range(many - 1)], EIGHT)
            self.assertEqual(row, cut_against(league, "ash"))
            self.assertEqual(row, told_first_cut(league, "ash"))
            self.assertIs(True, cut_holds(league, "ash", row[::-1]))
            for lot in itertools.combinations(row, many - 1):
                self.assertIs(False, cut_holds(league, "ash", lot))
            self.assertIsNone(first_lot_ending(league, "ash"))
            if many > 1:
                league.call_off(3)
                self.assertIsNone(cut_against(league, "ash"))
                self.assertIsNotNone(first_lot_ending(league, "ash"))

    def test_any_number_of_games_may_be_left(self):
        league = with_left(56, scheme=WITHOUT_DRAWS)
        for side in EIGHT:
            self.assertIsNone(cut_against(league, side))
            self.assertIs(False, cut_holds(league, side, [other for other in EIGHT if other != side]))
        for number, (home, away, state) in enumerate(league.games()):
            if "fig" in (home, away):
                league.enter(number, "away" if home == "fig" else "home")
        # Seven sides have two each and 42 games between them, fig has none: 56 points, eight for each.
        self.assertEqual(("ash",), cut_against(league, "fig"))
        self.assertIs(True, cut_holds(league, "fig", EIGHT[:7]))


class ErrorsTest(unittest.TestCase):
    def test_what_is_no_side(self):
        for league in (race(), with_left(9), made()):
            for value in NO_STRINGS + ("", "pine", "Ash", deep(40)):
                for call in CALLS:
                    expect(self, BadSide, "name", value, call, league, value)
                expect(self, BadSide, "name", value, cut_holds, league, value, None)

    def test_leagues_of_other_schemes(self):
        for scheme in OTHER_SCHEMES:
            for league in (made(scheme=scheme, games=[("ash", "elm", "left")]), with_left(9, scheme=scheme)):
                for call in CALLS:
                    expect(self, BadValue, "at", 0, call, league, "elm")
                for lot in (None, "ash", ("elm",), ("no",), ["ash"]):
                    expect(self, BadValue, "at", 0, cut_holds, league, "elm", lot)

    def test_a_scheme_that_was_told_as_a_list(self):
        self.assertIsNone(cut_against(made(scheme=[1, None, 0]), "ash"))

    def test_what_are_no_such_sides(self):
        league = race()
        before = snapshot(league)
        values = (("oak",), ["ash", "oak"], ("ash", "ash"), ["ash", "elm", "ash"], ("no",), ("ash", "no"),
                  ("ash", None),
                  ("ash", True), (["ash"],), [("ash",)], ("ash", ["elm"]), "ash", "", "oak", None, True, False, 0, 1,
                  -10 ** 30, deep(40), ("ash", deep(39)), ("Ash",), ("",), ("ash ",))
        for value in values:
            expect(self, BadValue, "at", 2, cut_holds, league, "oak", value)
        self.assertEqual(before, snapshot(league))

    def test_eight_games_left_and_nine(self):
        league = with_left(8, scheme=WITHOUT_DRAWS)
        self.assertEqual(("home",) * 8, first_lot_ending(league, "ash"))
        self.assertEqual(told_first_lot_ending(league, "fig"), first_lot_ending(league, "fig"))
        league.add_game("oak", "fir")
        expect(self, TooMany, "word", "games", first_lot_ending, league, "ash")
        self.assertIsNone(cut_against(league, "ash"))
        self.assertIs(False, cut_holds(league, "ash", ["elm"]))
        league.call_off(8)
        self.assertIsNotNone(first_lot_ending(league, "ash"))

    def test_arguments_by_name(self):
        league = race()
        self.assertEqual(("ash", "elm"), cut_against(side="oak", league=league))
        self.assertIs(True, cut_holds(sides=["elm", "ash"], side="oak", league=league))
        self.assertIsNone(first_lot_ending(side="oak", league=league))


if __name__ == "__main__":
    unittest.main()
