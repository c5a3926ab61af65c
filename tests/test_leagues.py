"""Points [3] to [7]: leagues."""

import unittest

from stillmay.errors import BadGame, BadSide, BadValue, TooMany
from stillmay.leagues import League
from tests.helper import (ALL_RULES, EIGHT, NO_STRINGS, OUTCOMES, PLAIN, TRIO, WITH_DRAWS, WITHOUT_DRAWS, deep,
                          expect, made, snapshot)

GOOD_SCHEMES = ((3, 1, 0), (1, None, 0), (2, 2, 0), (2, 0, 0), (100, 100, 99), (100, 99, 99), (1, 0, 0),
                (100, 50, 0), (100, None, 0), (5, 3, 1), (1, 1, 0))

BAD_SCHEMES = ((1, 1, 1), (0, 0, 0), (0, None, 0), (1, None, 1), (0, 1, 2), (3, 4, 0), (3, 0, 1), (5, 0, 1),
               (101, 1, 0), (101, None, 0), (101, 101, 0), (3, 1, -1), (3, -1, 0), (3, None, -1), (-1, None, -2),
               (10 ** 30, 1, 0), (3, 1, -10 ** 30), (True, 0, 0), (True, None, 0), (3, True, 0), (3, 1, False),
               (3, False, 0), (3, None, False), (None, 1, 0), (3, 1, None), (None, None, None), ("3", 1, 0),
               (3, "1", 0), (3, 1, "0"), (3, 1), (3, 1, 0, 0), (), ((3,), 1, 0), (3, [1], 0), (3, 1, ()))

BAD_SIDES = ((), ("ash",), EIGHT + ("pine",), ("ash", "ash"), ("ash", "elm", "ash"), ("ash", ""), ("ash", "Elm"),
             ("ash", "elmelmelm"), ("ash", "el m"), ("ash", "elm\n"), ("ash", "elm1"), ("ash", "el-m"),
             ("ash", "\u00e9lm"), ("ash", "\u0430sh"), ("ash", "e" * 200000), ("ash", ["elm"]), ("ash", ("elm",)),
             ("ash", 1), ("ash", True), ("ash", None), "ab", "ash", "", None, True, False, 2, -1, deep(40),
             [["ash"], ["ash"]], ("ash", []))

BAD_RULES = ((), [], ("wins",), ("wins", "points"), ("points", "points"), ("points", "wins", "wins"),
             ("points", "among", "away", "wins", "among"), ("points", "goals"), ("points", ""), ("Points",),
             "points", "", None, True, 0, ("points", None), ("points", 0), ("points", ["wins"]), (["points"],),
             (("points",),), ("points", ()), deep(40), ("points", deep(39)))


class NewLeagueTest(unittest.TestCase):
    def test_sides_scheme_and_rules_are_told(self):
        league = League(TRIO, WITH_DRAWS, PLAIN)
        self.assertEqual((TRIO, WITH_DRAWS, PLAIN), (league.sides(), league.scheme(), league.rules()))

    def test_lists_may_be_handed_in_and_changed_later(self):
        sides, scheme, rules = list(TRIO), list(WITH_DRAWS), list(PLAIN)
        league = League(sides, scheme, rules)
        self.assertEqual((list(TRIO), list(WITH_DRAWS), list(PLAIN)), (sides, scheme, rules))
        sides.append("fir")
        scheme[0] = 9
        rules.clear()
        for found, due in ((league.sides(), TRIO), (league.scheme(), WITH_DRAWS), (league.rules(), PLAIN)):
            self.assertIs(tuple, found.__class__)
            self.assertEqual(due, found)

    def test_two_and_eight_sides(self):
        for sides in (("ash", "elm"), EIGHT):
            self.assertEqual(sides, League(sides, WITH_DRAWS, PLAIN).sides())

    def test_names_of_one_and_eight_letters(self):
        for sides in (("a", "z"), ("abcdefgh", "stuvwxyz"), ("ash", "ashash")):
            self.assertEqual(sides, League(sides, WITH_DRAWS, PLAIN).sides())

    def test_wrong_sides(self):
        for sides in BAD_SIDES:
            expect(self, BadValue, "at", 0, League, sides, WITH_DRAWS, PLAIN)

    def test_good_schemes(self):
        for scheme in GOOD_SCHEMES:
            self.assertEqual(scheme, League(TRIO, scheme, PLAIN).scheme())

    def test_wrong_schemes(self):
        for scheme in BAD_SCHEMES + ("310", "", None, True, 3, deep(40)):
            expect(self, BadValue, "at", 1, League, TRIO, scheme, PLAIN)
        for scheme in BAD_SCHEMES:
            expect(self, BadValue, "at", 1, League, TRIO, list(scheme), PLAIN)

    def test_rules_of_each_sequence(self):
        self.assertEqual(16, len(ALL_RULES))
        for rules in ALL_RULES:
            self.assertEqual(rules, League(TRIO, WITH_DRAWS, rules).rules())

    def test_wrong_rules(self):
        for rules in BAD_RULES:
            expect(self, BadValue, "at", 2, League, TRIO, WITH_DRAWS, rules)

    def test_the_first_wrong_argument_is_told(self):
        expect(self, BadValue, "at", 0, League, (), (), ())
        expect(self, BadValue, "at", 1, League, TRIO, (), ())
        expect(self, BadValue, "at", 0, League, None, WITH_DRAWS, None)

    def test_a_new_league_has_no_games(self):
        league = League(TRIO, WITH_DRAWS, PLAIN)
        self.assertEqual(((), (), ()), (league.games(), league.left(), league.withdrawn()))


class AddGameTest(unittest.TestCase):
    def test_numbers_rise_and_new_games_are_left(self):
        league = made()
        numbers = [league.add_game(*pair) for pair in (("ash", "elm"), ("elm", "ash"), ("ash", "elm"))]
        self.assertEqual([0, 1, 2], numbers)
        self.assertEqual((("ash", "elm", "left"), ("elm", "ash", "left"), ("ash", "elm", "left")), league.games())
        self.assertEqual((0, 1, 2), league.left())

    def test_numbers_go_on_whatever_the_states(self):
        league = made(games=[("ash", "elm", "off"), ("ash", "oak", "home")])
        self.assertEqual(2, league.add_game("elm", "oak"))

    def test_wrong_sides_home_first(self):
        league = made(games=[("ash", "elm", "home")])
        before = snapshot(league)
        for value in NO_STRINGS + ("", "fir", "Ash", "ash ", "home", deep(40)):
            expect(self, BadSide, "name", value, league.add_game, value, "elm")
            expect(self, BadSide, "name", value, league.add_game, "ash", value)
            expect(self, BadSide, "name", value, league.add_game, value, "no")
            expect(self, BadSide, "name", value, league.add_game, value, value)
        self.assertEqual(before, snapshot(league))

    def test_withdrawn_sides(self):
        league = made()
        league.withdraw("ash")
        expect(self, BadSide, "name", "ash", league.add_game, "ash", "elm")
        expect(self, BadSide, "name", "ash", league.add_game, "elm", "ash")
        expect(self, BadSide, "name", "ash", league.add_game, "ash", "ash")
        self.assertEqual(0, league.add_game("elm", "oak"))

    def test_a_side_against_itself(self):
        league = made()
        expect(self, BadValue, "at", 1, league.add_game, "ash", "ash")
        self.assertEqual((), league.games())

    def test_eighty_games_and_one_more(self):
        for state in ("left", "home", "draw", "away", "off"):
            league = made(games=[("ash", "elm", state)] * 79)
            self.assertEqual(79, league.add_game("elm", "oak"))
            before = snapshot(league)
            expect(self, TooMany, "word", "games", league.add_game, "ash", "elm")
            expect(self, BadValue, "at", 1, league.add_game, "ash", "ash")
            expect(self, BadSide, "name", "fir", league.add_game, "ash", "fir")
            self.assertEqual(before, snapshot(league))

    def test_games_of_a_withdrawn_side_count_too(self):
        league = made(games=[("ash", "elm", "home")] * 80)
        league.withdraw("ash")
        expect(self, TooMany, "word", "games", league.add_game, "elm", "oak")


class StatesTest(unittest.TestCase):
    def setUp(self):
        self.league = made(games=[("ash", "elm", "left"), ("elm", "oak", "draw"), ("oak", "ash", "off")])

    def states(self):
        return [state for home, away, state in self.league.games()]

    def test_enter_from_each_state(self):
        for outcome in OUTCOMES:
            for before in ("left", "off") + OUTCOMES:
                league = made(games=[("elm", "oak", "left"), ("ash", "elm", before), ("ash", "oak", "off")])
                self.assertIsNone(league.enter(1, outcome))
                self.assertEqual((("elm", "oak", "left"), ("ash", "elm", outcome), ("ash", "oak", "off")),
                                 league.games())

    def test_call_off_and_reopen_from_each_state(self):
        for before in ("left", "off") + OUTCOMES:
            league = made(games=[("ash", "elm", before), ("elm", "oak", "home")])
            self.assertIsNone(league.call_off(0))
            self.assertEqual((("ash", "elm", "off"), ("elm", "oak", "home")), league.games())
            league = made(games=[("ash", "elm", before), ("elm", "oak", "home")])
            self.assertIsNone(league.reopen(0))
            self.assertEqual((("ash", "elm", "left"), ("elm", "oak", "home")), league.games())
            self.assertEqual((0,), league.left())

    def test_corrections(self):
        self.league.enter(0, "home")
        self.league.enter(0, "away")
        self.league.call_off(0)
        self.league.reopen(0)
        self.league.enter(0, "draw")
        self.assertEqual(["draw", "draw", "off"], self.states())

    def test_what_is_no_game(self):
        before = snapshot(self.league)
        values = (-1, 3, 80, 10 ** 30, -10 ** 30, True, False, None, "", "0", "ash", (), [], (0,), [0], deep(40))
        for value in values:
            for outcome in ("home", "no", None):
                expect(self, BadGame, "number", value, self.league.enter, value, outcome)
            expect(self, BadGame, "number", value, self.league.call_off, value)
            expect(self, BadGame, "number", value, self.league.reopen, value)
        self.assertEqual(before, snapshot(self.league))

    def test_no_game_in_a_new_league(self):
        expect(self, BadGame, "number", 0, made().enter, 0, "home")

    def test_what_is_no_outcome(self):
        before = snapshot(self.league)
        for value in NO_STRINGS + ("", "left", "off", "Home", "home ", "h", "ash", ("home",), ["draw"], deep(40)):
            expect(self, BadValue, "at", 1, self.league.enter, 0, value)
        self.assertEqual(before, snapshot(self.league))

    def test_draws_only_where_there_are_such(self):
        league = made(scheme=WITHOUT_DRAWS, games=[("ash", "elm", "left")])
        expect(self, BadValue, "at", 1, league.enter, 0, "draw")
        expect(self, BadGame, "number", 1, league.enter, 1, "draw")
        league.enter(0, "away")
        expect(self, BadValue, "at", 1, league.enter, 0, "draw")
        self.assertEqual((("ash", "elm", "away"),), league.games())
        level = made(scheme=(2, 0, 0), games=[("ash", "elm", "left")])
        self.assertIsNone(level.enter(0, "draw"))

    def test_left_rises_and_follows_the_states(self):
        league = made(games=[("ash", "elm", "left")] * 5)
        league.enter(3, "home")
        league.call_off(0)
        self.assertEqual((1, 2, 4), league.left())
        league.reopen(3)
        league.reopen(0)
        self.assertEqual((0, 1, 2, 3, 4), league.left())


class WithdrawTest(unittest.TestCase):
    def setUp(self):
        self.league = made(EIGHT, games=[("ash", "elm", "home"), ("elm", "oak", "left"), ("oak", "ash", "draw"),
                                         ("oak", "elm", "away"), ("fir", "oak", "left")])

    def test_all_its_games_are_off_ended_ones_too(self):
        self.assertIsNone(self.league.withdraw("elm"))
        self.assertEqual((("ash", "elm", "off"), ("elm", "oak", "off"), ("oak", "ash", "draw"),
                          ("oak", "elm", "off"), ("fir", "oak", "left")), self.league.games())
        self.assertEqual(("elm",), self.league.withdrawn())
        self.assertEqual((4,), self.league.left())
        self.assertEqual(EIGHT, self.league.sides())

    def test_its_games_take_no_call_any_more(self):
        self.league.withdraw("elm")
        before = snapshot(self.league)
        for number in (0, 1, 3):
            expect(self, BadGame, "number", number, self.league.enter, number, "home")
            expect(self, BadGame, "number", number, self.league.enter, number, "no")
            expect(self, BadGame, "number", number, self.league.call_off, number)
            expect(self, BadGame, "number", number, self.league.reopen, number)
        self.assertEqual(before, snapshot(self.league))
        self.league.enter(4, "home")
        self.league.reopen(2)
        self.assertEqual((2,), self.league.left())

    def test_told_in_the_order_of_sides(self):
        for side in ("fig", "ash", "oak"):
            self.league.withdraw(side)
        self.assertEqual(("ash", "oak", "fig"), self.league.withdrawn())

    def test_all_sides_may_withdraw(self):
        for side in EIGHT:
            self.league.withdraw(side)
        self.assertEqual(EIGHT, self.league.withdrawn())
        self.assertEqual((), self.league.left())

    def test_wrong_sides(self):
        self.league.withdraw("elm")
        before = snapshot(self.league)
        for value in NO_STRINGS + ("", "pine", "elm", "Ash"):
            expect(self, BadSide, "name", value, self.league.withdraw, value)
        self.assertEqual(before, snapshot(self.league))


class CopyAndEqualityTest(unittest.TestCase):
    GAMES = [("ash", "elm", "home"), ("elm", "oak", "left"), ("oak", "ash", "off")]

    def test_a_copy_is_the_same(self):
        league = made(games=self.GAMES)
        league.withdraw("oak")
        twin = league.copy()
        self.assertIs(League, twin.__class__)
        self.assertIsNot(league, twin)
        self.assertEqual(snapshot(league), snapshot(twin))
        self.assertTrue(league == twin)

    def test_a_copy_changes_by_itself(self):
        changes = (lambda one: one.enter(1, "home"), lambda one: one.call_off(0), lambda one: one.reopen(2),
                   lambda one: one.add_game("ash", "elm"), lambda one: one.withdraw("ash"))
        for change in changes:
            league = made(games=self.GAMES)
            twin = league.copy()
            before = snapshot(league)
            change(twin)
            self.assertEqual(before, snapshot(league))
            self.assertFalse(league == twin)
            twin = league.copy()
            change(league)
            self.assertEqual(before, snapshot(twin))
            self.assertTrue(league != twin)

    def test_equal_if_made_in_another_way(self):
        league = made(games=self.GAMES)
        other = League(list(TRIO), list(WITH_DRAWS), list(PLAIN))
        for home, away, state in self.GAMES:
            other.add_game(home, away)
        other.enter(2, "draw")
        other.enter(0, "away")
        other.enter(0, "home")
        other.call_off(2)
        self.assertTrue(league == other)
        self.assertFalse(league != other)

    def test_equal_whoever_withdrew_first(self):
        one, other = made(EIGHT), made(EIGHT)
        for side in ("ash", "fig"):
            one.withdraw(side)
        for side in ("fig", "ash"):
            other.withdraw(side)
        self.assertTrue(one == other)

    def test_each_part_counts(self):
        league = made(games=self.GAMES)
        others = [made(("elm", "ash", "oak"), games=self.GAMES), made(TRIO + ("fir",), games=self.GAMES),
                  made(scheme=(2, 1, 0), games=self.GAMES), made(scheme=(3, 0, 0), games=self.GAMES),
                  made(scheme=WITHOUT_DRAWS, games=self.GAMES), made(rules=("points",), games=self.GAMES),
                  made(rules=("points", "away"), games=self.GAMES), made(games=self.GAMES[:2]),
                  made(games=self.GAMES[::-1]), made(games=[("ash", "elm", "away")] + self.GAMES[1:]),
                  made(games=[("elm", "ash", "home")] + self.GAMES[1:])]
        for other in others:
            self.assertFalse(league == other)
            self.assertTrue(league != other)

    def test_withdrawn_without_games_counts(self):
        league = made(EIGHT)
        other = league.copy()
        other.withdraw("fig")
        self.assertFalse(league == other)

    def test_equal_to_nothing_else(self):
        league = made(games=self.GAMES)
        for other in NO_STRINGS + ("ash", snapshot(league), league.games(), {}, League):
            self.assertFalse(league == other)
            self.assertFalse(other == league)
            self.assertTrue(league != other)

    def test_equality_is_true_or_false(self):
        self.assertIs(True, made() == made())
        self.assertIs(False, made() == made(EIGHT))
        self.assertIs(False, made() == 0)


class ToldAsTuplesTest(unittest.TestCase):
    def test_tuples_also_within(self):
        league = made(list(TRIO), list(WITH_DRAWS), list(PLAIN), [["ash", "elm", "left"], ["elm", "oak", "home"]])
        league.withdraw("oak")
        told = (league.sides(), league.scheme(), league.rules(), league.games(), league.left(), league.withdrawn())
        for value in told + league.games():
            self.assertIs(tuple, value.__class__)

    def test_told_ones_do_not_follow_later_changes(self):
        league = made(games=[("ash", "elm", "left")])
        games, left, gone = league.games(), league.left(), league.withdrawn()
        league.enter(0, "home")
        league.withdraw("ash")
        self.assertEqual(((("ash", "elm", "left"),), (0,), ()), (games, left, gone))


if __name__ == "__main__":
    unittest.main()
