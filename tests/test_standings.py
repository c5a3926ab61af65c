"""Points [8] to [10]: standings."""

import unittest

from stillmay.errors import BadSide
from stillmay.standings import away_wins, level, order, place, played, points, points_among, table, wins
from tests.helper import (EIGHT, NO_STRINGS, PLAIN, TRIO, WITHOUT_DRAWS, deep, drawn_league, expect, made, snapshot,
                          told_number, told_order, told_parts, told_points)

GAMES = [("ash", "elm", "home"), ("elm", "ash", "home"), ("elm", "oak", "draw"), ("oak", "ash", "away"),
         ("oak", "elm", "left"), ("oak", "ash", "off")]


class CountsTest(unittest.TestCase):
    def setUp(self):
        self.league = made(scheme=(5, 2, 1), games=GAMES)

    def told(self, count):
        return [count(self.league, side) for side in TRIO]

    def test_points(self):
        self.assertEqual([11, 8, 3], self.told(points))

    def test_wins(self):
        self.assertEqual([2, 1, 0], self.told(wins))

    def test_away_wins(self):
        self.assertEqual([1, 0, 0], self.told(away_wins))

    def test_played(self):
        self.assertEqual([3, 3, 2], self.told(played))

    def test_corrections_count(self):
        self.league.enter(0, "away")
        self.league.call_off(3)
        self.league.enter(4, "away")
        self.league.reopen(2)
        self.assertEqual([2, 15, 1], self.told(points))
        self.assertEqual([0, 3, 0], self.told(wins))
        self.assertEqual([0, 2, 0], self.told(away_wins))
        self.assertEqual([2, 3, 1], self.told(played))

    def test_withdrawn_sides_are_sides_without_points(self):
        self.league.withdraw("ash")
        self.assertEqual([0, 2, 2], self.told(points))
        self.assertEqual([0, 0, 0], self.told(wins))
        self.assertEqual([0, 1, 1], self.told(played))
        self.assertEqual(3, place(self.league, "ash"))

    def test_no_games(self):
        self.league = made()
        for count in (points, wins, away_wins, played):
            self.assertEqual([0, 0, 0], self.told(count))

    def test_a_draw_as_much_as_a_win_is_no_win(self):
        self.league = made(scheme=(2, 2, 0), games=[("ash", "elm", "draw"), ("elm", "oak", "home")])
        self.assertEqual([2, 4, 0], self.told(points))
        self.assertEqual([0, 1, 0], self.told(wins))

    def test_no_draws(self):
        self.league = made(scheme=WITHOUT_DRAWS, games=[("ash", "elm", "away"), ("elm", "oak", "home")])
        self.assertEqual([0, 2, 0], self.told(points))

    def test_hundred_points_and_eighty_games(self):
        self.league = made(scheme=(100, 100, 99), games=[("ash", "elm", "home")] * 79 + [("ash", "elm", "draw")])
        self.assertEqual([8000, 7921, 0], self.told(points))
        self.assertEqual([80, 80, 0], self.told(played))

    def test_what_is_no_side(self):
        before = snapshot(self.league)
        for value in NO_STRINGS + ("", "fir", "Ash", "ash ", deep(40)):
            for call in (points, wins, away_wins, played, place):
                expect(self, BadSide, "name", value, call, self.league, value)
            for others in ((), ("elm",), ("no",), None, "no", 5):
                expect(self, BadSide, "name", value, points_among, self.league, value, others)
        self.assertEqual(before, snapshot(self.league))


class PointsAmongTest(unittest.TestCase):
    def setUp(self):
        self.league = made(scheme=(5, 2, 1), games=GAMES)

    def test_against_each_lot(self):
        due = {(): 0, ("elm",): 6, ("oak",): 5, ("elm", "oak"): 11, ("ash",): 0, ("oak", "ash"): 5}
        for others, among in due.items():
            self.assertEqual(among, points_among(self.league, "ash", others))
            self.assertEqual(among, points_among(self.league, "ash", list(others)))

    def test_a_side_that_stands_twice_counts_once(self):
        self.assertEqual(6, points_among(self.league, "ash", ("elm", "elm", "ash", "elm")))

    def test_others_are_not_changed(self):
        others = ["oak", "elm", "oak"]
        points_among(self.league, "ash", others)
        self.assertEqual(["oak", "elm", "oak"], others)

    def test_withdrawn_ones_may_stand_in_it(self):
        self.league.withdraw("elm")
        self.assertEqual(5, points_among(self.league, "ash", ("elm", "oak")))
        self.assertEqual(0, points_among(self.league, "elm", ("ash", "oak")))

    def test_others_that_are_no_row(self):
        for value in (None, True, False, 0, 7, -10 ** 30, "", "ash", "elm", "fir"):
            expect(self, BadSide, "name", value, points_among, self.league, "ash", value)

    def test_the_first_of_others_that_is_no_side(self):
        for value in NO_STRINGS + ("", "fir", deep(39)):
            for others in ([value], ("elm", value), ["elm", value, "no", None], ("ash", "ash", value)):
                expect(self, BadSide, "name", value, points_among, self.league, "ash", others)


class OrderTest(unittest.TestCase):
    def test_lots_decide_at_last(self):
        for sides in (TRIO, ("oak", "elm", "ash"), EIGHT, ("elm", "ash")):
            league = made(sides)
            self.assertEqual(sides, order(league))
            self.assertEqual((sides,), level(league))

    def test_points_decide_first(self):
        games = [("ash", "elm", "home"), ("ash", "oak", "away"), ("oak", "fir", "draw"), ("elm", "fir", "home")]
        league = made(EIGHT[:4], (3, 1, 0), ("points",), games)
        self.assertEqual(("oak", "ash", "elm", "fir"), order(league))
        self.assertEqual((("ash", "elm"),), level(league))

    def test_wins_decide_among_equal_points(self):
        games = [("ash", "elm", "draw"), ("ash", "fir", "draw"), ("ash", "yew", "draw"), ("oak", "yew", "home")]
        league = made(EIGHT[:5], games=games)
        self.assertEqual((3, 3), (points(league, "ash"), points(league, "oak")))
        self.assertEqual(("oak", "ash", "elm", "fir", "yew"), order(league))
        plain = made(EIGHT[:5], rules=("points",), games=games)
        self.assertEqual(("ash", "oak", "elm", "fir", "yew"), order(plain))

    def test_away_wins_decide(self):
        games = [("ash", "fir", "home"), ("fir", "elm", "away"), ("oak", "fir", "home")]
        for rules in (("points", "away"), ("points", "wins", "away"), ("points", "away", "wins")):
            self.assertEqual(("elm", "ash", "oak", "fir"), order(made(EIGHT[:4], rules=rules, games=games)))

    def test_the_sequence_of_the_rules_counts(self):
        # ash has more wins, elm more away wins, oak beat both; all have four points.
        games = [("ash", "fir", "home"), ("ash", "fir", "home"), ("elm", "yew", "draw"), ("elm", "yew", "draw"),
                 ("yew", "elm", "away"), ("oak", "ash", "draw"), ("oak", "elm", "draw"), ("oak", "yew", "draw"),
                 ("oak", "fir", "draw")]
        league = made(EIGHT[:5], (2, 1, 0), ("points",), games)
        self.assertEqual([5, 5, 4], [points(league, side) for side in TRIO])
        first = {("points", "wins", "away"): "ash", ("points", "away", "wins"): "elm"}
        for rules, side in first.items():
            self.assertEqual(side, order(made(EIGHT[:5], (2, 1, 0), rules, games))[0])

    def test_points_among_those_who_are_level(self):
        games = [("elm", "ash", "home"), ("ash", "oak", "home"), ("elm", "oak", "away"), ("oak", "fir", "away"),
                 ("ash", "fir", "away")]
        league = made(EIGHT[:4], rules=("points", "among"), games=games)
        self.assertEqual([3, 3, 3, 6], [points(league, side) for side in EIGHT[:4]])
        self.assertEqual(("fir", "ash", "elm", "oak"), order(league))
        two = made(rules=("points", "among"), games=[("ash", "elm", "away"), ("oak", "ash", "away")])
        self.assertEqual(("elm", "ash", "oak"), order(two))

    # Four sides have nine points. Among them ash has six, elm and oak three, fir none; elm beat oak.
    AGAIN = ([("ash", "elm", "home"), ("ash", "oak", "home"), ("elm", "oak", "home"), ("oak", "fir", "home")]
             + [("ash", "yew", "home")] + [("elm", "yew", "draw")] * 6 + [("oak", "yew", "home")] * 2
             + [("fir", "yew", "home")] * 3)
    AGAIN_SIDES = ("fir", "oak", "yew", "elm", "ash")

    def test_among_is_reckoned_again_for_each_new_lot(self):
        league = made(self.AGAIN_SIDES, rules=("points", "among"), games=self.AGAIN)
        self.assertEqual([9, 9, 6, 9, 9], [points(league, side) for side in self.AGAIN_SIDES])
        four = ("fir", "oak", "elm", "ash")
        self.assertEqual([0, 3, 3, 6], [points_among(league, side, four) for side in four])
        self.assertEqual(("ash", "elm", "oak", "fir", "yew"), order(league))
        self.assertEqual((), level(league))

    def test_among_is_due_again_ahead_of_the_rules_behind_it(self):
        league = made(self.AGAIN_SIDES, rules=("points", "among", "wins"), games=self.AGAIN)
        self.assertEqual((1, 3), (wins(league, "elm"), wins(league, "oak")))
        self.assertEqual(("ash", "elm", "oak", "fir", "yew"), order(league))

    def test_among_is_reckoned_among_the_lot_that_the_rules_ahead_left(self):
        # Wins leave ash, oak and fir; among these ash and oak have three points each, and ash beat oak.
        league = made(self.AGAIN_SIDES, rules=("points", "wins", "among"), games=self.AGAIN)
        self.assertEqual(("ash", "oak", "fir", "elm", "yew"), order(league))

    def test_a_ring_is_parted_by_no_rule(self):
        games = [("ash", "elm", "home"), ("elm", "oak", "home"), ("oak", "ash", "home"), ("fir", "ash", "home"),
                 ("fir", "elm", "home"), ("fir", "oak", "home")]
        league = made(EIGHT[:4], WITHOUT_DRAWS, ("points", "among", "wins"), games)
        self.assertEqual(("fir", "ash", "elm", "oak"), order(league))
        self.assertEqual((TRIO,), level(league))

    def test_behind_a_rule_that_parts_the_next_one_is_due(self):
        # Wins part the level ones, and then among is reckoned within each new lot alone.
        games = [("elm", "ash", "home"), ("fir", "oak", "home"), ("ash", "yew", "home"), ("oak", "yew", "home"),
                 ("oak", "box", "draw"), ("fir", "box", "draw")]
        for rules in (("points", "wins", "among"), ("points", "among", "wins"), ("points", "among")):
            league = made(EIGHT[:6], rules=rules, games=games)
            self.assertEqual(told_order(league, league.games()), order(league))
        self.assertEqual(("fir", "oak", "elm", "ash", "box", "yew"), order(league))

    def test_against_the_second_reckoning(self):
        for seed in range(600):
            league = drawn_league(seed)
            games = league.games()
            with self.subTest(seed=seed, league=snapshot(league)):
                due = told_order(league, games)
                parts = told_parts(league, games, league.sides(), league.rules())
                self.assertEqual(due, order(league))
                self.assertEqual(tuple(part for part in parts if len(part) > 1), level(league))
                for side in league.sides():
                    self.assertEqual(due.index(side) + 1, place(league, side))
                    self.assertEqual(told_points(league, games, side, league.sides()), points(league, side))
                    self.assertEqual(told_number(league, games, "wins", side, ()), wins(league, side))
                    self.assertEqual(told_number(league, games, "away", side, ()), away_wins(league, side))
                    others = league.sides()[::2]
                    self.assertEqual(told_points(league, games, side, others), points_among(league, side, others))


class TableTest(unittest.TestCase):
    def test_places_names_and_numbers(self):
        league = made(scheme=(5, 2, 1), games=GAMES)
        self.assertEqual(((1, "ash", 3, 2, 11), (2, "elm", 3, 1, 8), (3, "oak", 2, 0, 3)), table(league))
        league.withdraw("ash")
        self.assertEqual(((1, "elm", 1, 0, 2), (2, "oak", 1, 0, 2), (3, "ash", 0, 0, 0)), table(league))

    def test_it_follows_the_order(self):
        for seed in range(40):
            league = drawn_league(seed)
            due = [(place(league, side), side, played(league, side), wins(league, side), points(league, side))
                   for side in order(league)]
            self.assertEqual(tuple(due), table(league))

    def test_tuples_also_within(self):
        league = made(rules=list(PLAIN))
        for value in (order(league), table(league), level(league)) + table(league) + level(league):
            self.assertIs(tuple, value.__class__)


class LevelTest(unittest.TestCase):
    def test_no_lots_where_all_are_parted(self):
        league = made(games=[("ash", "elm", "home"), ("ash", "oak", "home"), ("elm", "oak", "home")])
        self.assertEqual((), level(league))

    def test_lots_stand_as_in_the_order_and_within_by_lots(self):
        games = [("fig", "ash", "home"), ("bay", "elm", "home"), ("fir", "oak", "draw")]
        league = made(EIGHT, games=games)
        self.assertEqual((("bay", "fig"), ("oak", "fir"), ("ash", "elm", "yew", "box")), level(league))
        self.assertEqual(("bay", "fig", "oak", "fir", "ash", "elm", "yew", "box"), order(league))

    def test_withdrawn_sides_stand_in_them(self):
        league = made(games=[("ash", "elm", "home")])
        league.withdraw("ash")
        self.assertEqual((TRIO,), level(league))


if __name__ == "__main__":
    unittest.main()
