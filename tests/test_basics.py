"""Points [1] and [3]: what holds for all calls."""

import sys
import unittest

from stillmay import checking, cuts, desk, divisions, fixtures, knockouts, pairings, papers, standings, ways
from stillmay.errors import LeagueError
from stillmay.leagues import League
from tests.helper import (ALL_RULES, EIGHT, OUTCOMES, PLAIN, TEN, TRIO, WITH_DRAWS, WITHOUT_DRAWS, as_lists, caught,
                          deep, made, nested_calls, snapshot, with_left)

GAMES = [("ash", "elm", "home"), ("elm", "oak", "left"), ("oak", "ash", "draw"), ("oak", "elm", "left"),
         ("ash", "oak", "off")]

# Each function with the arguments behind the league, and what kind of value comes back.
CALLS = (
    (standings.points, {"side": "elm"}, int), (standings.wins, {"side": "elm"}, int),
    (standings.away_wins, {"side": "elm"}, int), (standings.played, {"side": "elm"}, int),
    (standings.points_among, {"side": "elm", "others": ("ash", "oak")}, int), (standings.order, {}, tuple),
    (standings.place, {"side": "elm"}, int), (standings.table, {}, tuple), (standings.level, {}, tuple),
    (ways.ended, {"ending": ("home", "away")}, League), (ways.endings_count, {}, int),
    (ways.best_place, {"side": "elm"}, int), (ways.worst_place, {"side": "elm"}, int),
    (ways.ending_to, {"side": "elm", "place": 2}, tuple), (ways.ending_below, {"side": "elm", "place": 2}, tuple),
    (ways.sure, {"side": "elm", "place": 2}, bool), (ways.may, {"side": "elm", "place": 2}, bool),
    (ways.needs, {"side": "elm", "place": 2}, int), (ways.least_with, {"side": "elm", "place": 2}, int),
    (ways.deciders, {"side": "elm", "place": 2}, tuple), (ways.enders, {"side": "elm", "place": 2}, tuple),
    (ways.scenarios, {"side": "elm"}, tuple),
    (papers.always_paper, {"side": "elm", "place": 3}, str),
    (checking.paper_holds, {"side": "elm", "place": 3, "claim": "always", "paper": "bound\n"}, bool),
    (pairings.met_in, {}, tuple), (pairings.next_round, {}, tuple),
    (fixtures.put_in, {"rounds": ((("ash", "elm"),), (("elm", "oak"), ("oak", "ash")))}, tuple),
)

FOUR = EIGHT[:4]
ROUNDS = ((("ash", "elm"), ("oak", "fir")), (("oak", "ash"), ("elm", "fir")), (("ash", "fir"), ("elm", "oak")))
LOG = "game ash elm\ngame elm oak\nenter 0 home\nundo\ntable\noff 9\n"
# Functions of which the first argument is no league, or which take two of them.
MORE_CALLS = (
    (fixtures.is_fixtures, {"sides": FOUR, "rounds": ROUNDS}, bool), (fixtures.drawn_up, {"sides": FOUR}, tuple),
    (fixtures.breaks, {"sides": FOUR, "rounds": ROUNDS}, tuple), (fixtures.returned, {"rounds": ROUNDS}, tuple),
    (fixtures.break_count, {"sides": FOUR, "rounds": ROUNDS}, int),
    (fixtures.pattern, {"sides": FOUR, "rounds": ROUNDS, "side": "elm"}, str), (knockouts.draw, {"sides": FOUR}, tuple),
    (knockouts.rounds_to_meet, {"sides": FOUR, "one": "ash", "other": "oak"}, int),
    (knockouts.play, {"sides": FOUR, "winners": ("ash", "elm", "ash")}, tuple),
    (divisions.moved, {"upper": made(games=GAMES), "lower": made(("fir", "yew")), "many": 1}, tuple),
    (divisions.sure_up, {"lower": made(games=GAMES), "many": 2}, tuple),
    (divisions.may_up, {"lower": made(games=GAMES), "many": 1}, tuple),
    (divisions.sure_down, {"upper": made(games=GAMES), "many": 2}, tuple),
    (divisions.may_down, {"upper": made(games=GAMES), "many": 1}, tuple),
    (desk.replayed, {"sides": TRIO, "scheme": WITH_DRAWS, "rules": PLAIN, "log": LOG}, desk.Desk),
)


def plain(value):
    """The value, or of a desk what it tells."""
    return value.log() + value.tell("table") + value.tell("left") if isinstance(value, desk.Desk) else value


class KindsTest(unittest.TestCase):
    def check_kind(self, value):
        self.assertIn(value.__class__, (int, str, bool, tuple, None.__class__, League, desk.Desk))
        if isinstance(value, tuple):
            for part in value:
                self.check_kind(part)

    def test_kinds_that_come_back(self):
        for call, more, kind in CALLS:
            with self.subTest(call=call):
                found = call(made(games=GAMES), **more)
                self.assertIs(kind, found.__class__)
                self.check_kind(found)

        for call, given, kind in MORE_CALLS:
            for handed in (given, {name: as_lists(value) for name, value in given.items()}):
                with self.subTest(call=call):
                    found = call(**handed)
                    self.assertIs(kind, found.__class__)
                    self.check_kind(found)

    def test_a_method_without_a_result_returns_none(self):
        league = made(games=GAMES)
        results = (league.enter(0, "home"), league.call_off(0), league.reopen(0), league.withdraw("ash"))
        self.assertEqual((None,) * 4, results)


class ArgumentsTest(unittest.TestCase):
    def test_by_position_and_by_name(self):
        for call, more, kind in CALLS:
            with self.subTest(call=call):
                league = made(games=GAMES)
                due = call(league.copy(), *more.values())
                self.assertEqual(due, call(league=league.copy(), **more))
                mixed = dict(list(more.items())[::-1])
                self.assertEqual(due, call(**mixed, league=league.copy()))

    def test_more_calls_by_position_and_by_name(self):
        for call, given, kind in MORE_CALLS:
            with self.subTest(call=call):
                mixed = dict(list(given.items())[::-1])
                self.assertEqual(plain(call(*given.values())), plain(call(**mixed)))

    def test_methods_by_name(self):
        league = League(rules=["points"], scheme=[3, 1, 0], sides=["ash", "elm"])
        self.assertEqual(0, league.add_game(away="elm", home="ash"))
        self.assertEqual(1, league.add_game("elm", away="ash"))
        league.enter(outcome="draw", number=0)
        league.call_off(number=1)
        self.assertEqual((("ash", "elm", "draw"), ("elm", "ash", "off")), league.games())
        league.reopen(number=1)
        self.assertEqual((1,), league.left())
        league.withdraw(side="elm")
        self.assertEqual(("elm",), league.withdrawn())

    def test_nothing_that_is_handed_in_is_changed(self):
        for call, more, kind in CALLS:
            for rules in (PLAIN, ("points", "among")):
                league = made(rules=rules, games=GAMES)
                before = snapshot(league)
                handed = {name: as_lists(value) for name, value in more.items()}
                call(league, **handed)
                if call is not fixtures.put_in:
                    self.assertEqual(before, snapshot(league), call)
                for name, value in more.items():
                    self.assertEqual(as_lists(value), handed[name])
        for call, given, kind in MORE_CALLS:
            handed = {name: value.copy() if isinstance(value, League) else as_lists(value)
                      for name, value in given.items()}
            found = plain(call(**handed))
            for name, value in given.items():
                self.assertEqual(as_lists(value), handed[name])
                if isinstance(value, League):
                    handed[name].withdraw(value.sides()[0])
                elif isinstance(value, tuple):
                    handed[name].clear()
            # Later changes to what was handed in have no effect.
            self.assertEqual(found, plain(call(**given)))

    def test_later_changes_have_no_effect(self):
        league = made(games=GAMES)
        ending = ["home", "away"]
        done = ways.ended(league, ending)
        ending[0] = "draw"
        self.assertEqual("home", done.games()[1][2])

    def test_equal_calls_on_equal_things_return_equal_results(self):
        for call, more, kind in CALLS:
            league, other = made(games=GAMES), made(games=GAMES[:3])
            other.enter(1, "home")
            other.add_game("oak", "elm")
            other.add_game("ash", "oak")
            other.call_off(4)
            other.reopen(1)
            self.assertEqual(league, other)
            first = call(league.copy(), **more)
            self.assertEqual(first, call(league.copy(), **more))
            self.assertEqual(first, call(other, **more))
            self.assertEqual(first, call(league, **more))


class RaisingCallsTest(unittest.TestCase):
    def test_a_call_that_raises_changes_nothing(self):
        league = made(games=GAMES)
        league.withdraw("ash")
        before = snapshot(league)
        calls = ((league.add_game, "elm", "no"), (league.add_game, "ash", "elm"), (league.add_game, "elm", "elm"),
                 (league.enter, 9, "home"), (league.enter, 0, "home"), (league.enter, 1, "no"), (league.call_off, 0),
                 (league.reopen, 2), (league.reopen, True), (league.withdraw, "ash"), (league.withdraw, ["elm"]),
                 (standings.points, league, "no"), (standings.points_among, league, "elm", "no"),
                 (ways.ended, league, ("home", "no")), (ways.sure, league, "elm", 4), (ways.needs, league, "no", 0),
                 (fixtures.put_in, league, [[("elm", "oak")], [("elm", "ash")]]), (fixtures.put_in, league, None),
                 (divisions.moved, league, league, 0), (divisions.moved, made(("fir", "yew")), league, 2),
                 (divisions.sure_up, league, 3), (divisions.may_down, league, -1))
        for call in calls:
            self.assertIsInstance(caught(*call), LeagueError, call)
            self.assertEqual(before, snapshot(league))


class LimitsTest(unittest.TestCase):
    def test_calls_do_not_stand_deep_in_each_other(self):
        crowded = made(EIGHT, games=[pair[:2] + (OUTCOMES[number % 3],) for number, pair in
                                     enumerate(with_left(56).games() + with_left(24).games())])
        league = with_left(8, rules=("points", "among", "away", "wins"))
        pairs = with_left(6, rules=("points", "wins", "among"))
        before = sys.getrecursionlimit()
        sys.setrecursionlimit(nested_calls() + 200)
        try:
            for one in (crowded, league):
                standings.order(one)
                standings.level(one)
                standings.table(one)
            for call in (ways.sure, ways.may, ways.needs, ways.least_with):
                call(league, "ash", 8)
            ways.deciders(pairs, "ash", 1)
            ways.enders(pairs, "ash", 1)
            ways.scenarios(league, "ash")
            ways.endings_count(with_left(56))
            self.assertIsInstance(caught(ways.ended, league, deep(40)), LeagueError)
        finally:
            sys.setrecursionlimit(before)

    def test_calls_about_papers_cuts_and_pairings_neither(self):
        league = made(EIGHT, games=[("ash", "elm", "left")] * 8)
        full = made(EIGHT, WITHOUT_DRAWS, games=[("ash", "elm", "left")] * 80)
        few = made(EIGHT, WITHOUT_DRAWS, games=[("ash", "elm", "left")] * 8)
        met = [(one, other) for one in TEN[5:] for other in TEN[5:] if one != other]
        before = sys.getrecursionlimit()
        sys.setrecursionlimit(nested_calls() + 200)
        try:
            paper = papers.never_paper(league, "fig", 3)
            self.assertIs(True, checking.paper_holds(league, "fig", 3, "never", paper))
            chain = "".join(f"split {number}\n" for number in range(80)) + "bound\n" * 81
            self.assertIs(True, checking.paper_holds(full, "fig", 8, "always", chain))
            cuts.cut_against(full, "fig")
            cuts.cut_holds(full, "fig", EIGHT[:7])
            cuts.first_lot_ending(few, "fig")
            for order in (TEN, TEN[::-1]):
                for pairs in ((), met, met[:10]):
                    paper = pairings.pairing_paper(order, pairs)
                    self.assertIs(True, checking.pairing_holds(order, pairs, paper))
                    pairings.pairing(order, pairs)
                    pairings.barrier(order, pairs)
            pairings.next_round(full)
            self.assertIsInstance(caught(pairings.pairing, deep(40), ()), LeagueError)
            self.assertIsInstance(caught(pairings.pairing, TEN, deep(40)), LeagueError)
            self.assertIsInstance(caught(cuts.cut_holds, few, "fig", deep(40)), LeagueError)
            self.assertIsInstance(caught(checking.paper_holds, few, "fig", 8, "always", deep(40)), LeagueError)
        finally:
            sys.setrecursionlimit(before)

    def test_calls_about_fixtures_knockouts_divisions_and_the_desk_neither(self):
        league = made(EIGHT, games=[("ash", "elm", "left")] * 8)
        before = sys.getrecursionlimit()
        sys.setrecursionlimit(nested_calls() + 200)
        try:
            rounds = fixtures.drawn_up(EIGHT)
            fixtures.break_count(EIGHT, rounds)
            fixtures.pattern(EIGHT, rounds, "fig")
            fixtures.put_in(made(EIGHT), fixtures.returned(rounds))
            self.assertIs(False, fixtures.is_fixtures(EIGHT, deep(40)))
            knockouts.play(EIGHT, knockouts.draw(EIGHT)[::2])
            knockouts.rounds_to_meet(EIGHT, "ash", "elm")
            divisions.moved(league, made(("pine", "a")), 1)
            for call in (divisions.sure_up, divisions.may_up, divisions.sure_down, divisions.may_down):
                call(league, 3)
            log = "game ash elm\n" * 80 + "enter 3 home\n" * 2000 + "undo\n" * 2081
            self.assertEqual(log, desk.replayed(TRIO, WITH_DRAWS, PLAIN, log).log())
            for call in ((fixtures.drawn_up, deep(40)), (fixtures.breaks, FOUR, deep(40)), (knockouts.draw, deep(40)),
                         (fixtures.put_in, league, deep(40)), (knockouts.play, FOUR, deep(40)),
                         (knockouts.rounds_to_meet, FOUR, "ash", deep(40)), (divisions.sure_up, league, deep(40)),
                         (desk.Desk, TRIO, WITH_DRAWS, deep(40)), (desk.replayed, TRIO, WITH_DRAWS, PLAIN, deep(40))):
                self.assertIsInstance(caught(*call), LeagueError)
        finally:
            sys.setrecursionlimit(before)

    def test_limits_of_point_3(self):
        self.assertEqual(("a", "abcdefgh"), League(("a", "abcdefgh"), WITH_DRAWS, PLAIN).sides())
        for sides in (("a",), EIGHT + ("pine",), ("a", "abcdefghi"), ("a", "")):
            self.assertIsInstance(caught(League, sides, WITH_DRAWS, PLAIN), LeagueError)
        full = made(TRIO, games=[("ash", "elm", "left")] * 80)
        self.assertEqual(80, len(full.games()))
        self.assertIsInstance(caught(full.add_game, "ash", "elm"), LeagueError)
        self.assertIsNone(caught(ways.best_place, with_left(8), "ash"))
        self.assertIsInstance(caught(ways.best_place, with_left(9), "ash"), LeagueError)

    def test_leagues_of_two_and_of_eight_sides(self):
        for sides in (EIGHT[:2], EIGHT):
            for rules in ALL_RULES:
                league = made(sides, rules=rules, games=[("ash", "elm", "left"), ("elm", "ash", "draw")])
                self.assertEqual(sides, standings.order(league))
                self.assertEqual(3, sum(ways.scenarios(league, "elm")))


if __name__ == "__main__":
    unittest.main()
