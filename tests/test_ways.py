"""Points [11] to [14]: ways of ending."""

import itertools
import unittest

from stillmay.errors import BadSide, BadValue, TooMany
from stillmay.leagues import League
from stillmay.standings import place as place_of
from stillmay.standings import points
from stillmay.ways import (best_place, deciders, ended, enders, ending_below, ending_to, endings_count,
                           least_with, may, needs, scenarios, sure, worst_place)
from tests.helper import (EIGHT, NO_STRINGS, OUTCOMES, TRIO, WITH_DRAWS, WITHOUT_DRAWS, deep, drawn_league,
                          expect, made, outcomes, snapshot, told_results, with_left)

OF_SIDE = (best_place, worst_place, scenarios)
OF_PLACE = (ending_to, ending_below, sure, may, needs, least_with, deciders, enders)
PAIRS = (deciders, enders)

# elm and oak meet at last: ash has four points, oak one.
EXAMPLE = [("ash", "elm", "home"), ("elm", "oak", "left"), ("oak", "ash", "draw")]
TWO_LEFT = [("ash", "elm", "left"), ("elm", "oak", "left")]


class EndedTest(unittest.TestCase):
    def test_outcomes_are_entered_in_the_sequence_of_left(self):
        league = made(games=[("ash", "elm", "left"), ("elm", "oak", "draw"), ("oak", "ash", "left"),
                             ("oak", "elm", "off"), ("elm", "ash", "left")])
        before = snapshot(league)
        for ending in (("home", "draw", "away"), ["home", "draw", "away"]):
            done = ended(league, ending)
            self.assertIs(League, done.__class__)
            self.assertEqual((("ash", "elm", "home"), ("elm", "oak", "draw"), ("oak", "ash", "draw"),
                              ("oak", "elm", "off"), ("elm", "ash", "away")), done.games())
            self.assertEqual((), done.left())
        self.assertEqual(before, snapshot(league))

    def test_it_changes_by_itself(self):
        league = made(games=EXAMPLE)
        done = ended(league, ("home",))
        done.withdraw("ash")
        self.assertEqual(made(games=EXAMPLE), league)
        other = made(games=[("ash", "elm", "home")])
        done = ended(other, ())
        self.assertEqual(other, done)
        done.call_off(0)
        self.assertEqual("home", other.games()[0][2])

    def test_withdrawn_sides_stay_so(self):
        league = made(games=EXAMPLE)
        league.withdraw("ash")
        done = ended(league, ("away",))
        self.assertEqual(("ash",), done.withdrawn())
        self.assertEqual(3, points(done, "oak"))

    def test_no_game_left(self):
        for league in (made(), made(games=[("ash", "elm", "draw"), ("ash", "elm", "off")])):
            self.assertEqual(league, ended(league, ()))
            self.assertEqual(league, ended(league, []))
            for value in (("home",), ["draw"], "", None, 0):
                expect(self, BadValue, "at", 1, ended, league, value)

    def test_any_number_of_games_may_be_left(self):
        league = made(games=[("ash", "elm", "left")] * 80)
        done = ended(league, OUTCOMES * 26 + ("away", "away"))
        self.assertEqual(OUTCOMES * 26 + ("away", "away"), tuple(state for home, away, state in done.games()))
        expect(self, BadValue, "at", 1, ended, league, ("home",) * 79)
        expect(self, BadValue, "at", 1, ended, league, ("home",) * 81)

    def test_what_is_no_ending(self):
        league = made(games=[("ash", "elm", "left"), ("elm", "oak", "left")])
        before = snapshot(league)
        values = ((), [], ("home",), ("home", "away", "home"), ("home", "left"), ("off", "home"), ("home", "Home"),
                  ("home", None), (True, "home"), (0, 0), ("home", ["home"]), (("home",), "home"), "home", "", "hh",
                  None, True, False, 2, -10 ** 30, deep(40), ("home", deep(39)), [["home", "home"]])
        for value in values:
            expect(self, BadValue, "at", 1, ended, league, value)
        self.assertEqual(before, snapshot(league))

    def test_a_draw_only_where_there_are_such(self):
        league = made(scheme=WITHOUT_DRAWS, games=EXAMPLE[:2])
        expect(self, BadValue, "at", 1, ended, league, ("draw",))
        self.assertEqual("away", ended(league, ("away",)).games()[1][2])


class EndingsCountTest(unittest.TestCase):
    def test_counts(self):
        self.assertEqual(1, endings_count(made()))
        self.assertEqual(1, endings_count(made(games=[("ash", "elm", "home"), ("ash", "elm", "off")])))
        self.assertEqual(3, endings_count(made(games=EXAMPLE)))
        for many in (1, 2, 8, 9, 40):
            self.assertEqual(3 ** many, endings_count(with_left(many)))
            self.assertEqual(2 ** many, endings_count(with_left(many, scheme=WITHOUT_DRAWS)))
        for scheme, outcome_count in ((WITH_DRAWS, 3), ((2, 2, 0), 3), ((2, 0, 0), 3), (WITHOUT_DRAWS, 2)):
            league = made(scheme=scheme, games=[("ash", "elm", "left")] * 80)
            self.assertEqual(outcome_count ** 80, endings_count(league))

    def test_only_games_that_are_left_count(self):
        league = made(games=[("ash", "elm", "left"), ("elm", "oak", "left"), ("oak", "ash", "left")])
        league.withdraw("ash")
        self.assertEqual(3, endings_count(league))


class ErrorsTest(unittest.TestCase):
    def test_what_is_no_side(self):
        for league in (made(games=EXAMPLE), with_left(9, sides=TRIO + ("fir",))):
            for value in NO_STRINGS + ("", "yew", "Ash", deep(40)):
                for call in OF_SIDE:
                    expect(self, BadSide, "name", value, call, league, value)
                for call in OF_PLACE:
                    for place in (1, 0, None):
                        expect(self, BadSide, "name", value, call, league, value, place)

    def test_what_is_no_place(self):
        for many in (2, 9):
            league = with_left(many, sides=TRIO + ("fir",))
            for value in (0, 5, -1, 10 ** 30, -10 ** 30, True, False, None, "", "1", "ash", (), [], (1,), [1],
                          deep(40)):
                for call in OF_PLACE:
                    expect(self, BadValue, "at", 2, call, league, "elm", value)

    def test_places_from_first_to_last(self):
        for sides in (("ash", "elm"), TRIO, EIGHT):
            league = with_left(2, sides=sides)
            for call in OF_PLACE:
                for place in range(1, len(sides) + 1):
                    call(league, "ash", place)
                expect(self, BadValue, "at", 2, call, league, "ash", len(sides) + 1)

    def test_eight_games_and_nine(self):
        for scheme in (WITHOUT_DRAWS, WITH_DRAWS):
            league = with_left(8, scheme=scheme)
            total = endings_count(league)
            self.assertEqual(total, sum(scenarios(league, "elm")))
            self.assertEqual((1, 8), (best_place(league, "elm"), worst_place(league, "elm")))
            for call in OF_PLACE:
                if call not in PAIRS:
                    call(league, "elm", 8)
            league = with_left(9, scheme=scheme)
            for call in OF_SIDE:
                expect(self, TooMany, "word", "games", call, league, "elm")
            for call in OF_PLACE:
                expect(self, TooMany, "word", "games", call, league, "elm", 8)

    def test_six_games_and_seven_for_pairs(self):
        for scheme in (WITHOUT_DRAWS, WITH_DRAWS):
            for call in PAIRS:
                self.assertEqual((), call(with_left(6, scheme=scheme), "elm", 8))
                for many in (7, 8):
                    league = with_left(many, scheme=scheme)
                    expect(self, TooMany, "word", "games", call, league, "elm", 8)
                    expect(self, BadValue, "at", 2, call, league, "elm", 9)
                    expect(self, BadSide, "name", "oaks", call, league, "oaks", 9)

    def test_games_that_are_not_left_do_not_count(self):
        games = [("ash", "elm", "home")] * 36 + [("ash", "elm", "off")] * 36 + [("ash", "elm", "left")] * 8
        league = made(games=games)
        self.assertEqual((6561, 0, 0), scenarios(league, "ash"))
        league.call_off(79)
        league.enter(78, "away")
        self.assertEqual((), deciders(league, "ash", 1))

    def test_a_call_that_raises_changes_nothing(self):
        league = with_left(9)
        before = snapshot(league)
        for call in OF_PLACE:
            for side, place in (("no", 1), ("ash", 9), ("ash", 1)):
                self.assertRaises(Exception, call, league, side, place)
        self.assertEqual(before, snapshot(league))


class PlacesTest(unittest.TestCase):
    def test_best_and_worst(self):
        league = made(games=EXAMPLE)
        self.assertEqual([(1, 1), (2, 3), (2, 3)],
                         [(best_place(league, side), worst_place(league, side)) for side in TRIO])
        league = made(games=TWO_LEFT)
        self.assertEqual([(1, 3), (1, 3), (1, 3)],
                         [(best_place(league, side), worst_place(league, side)) for side in TRIO])

    def test_endings_come_in_their_order(self):
        league = made(games=TWO_LEFT)
        self.assertEqual(("home", "home"), ending_to(league, "ash", 1))
        self.assertEqual(("draw", "home"), ending_to(league, "elm", 1))
        self.assertEqual(("home", "away"), ending_to(league, "oak", 2))
        self.assertEqual(("draw", "away"), ending_to(league, "oak", 1))
        self.assertEqual(("draw", "home"), ending_below(league, "ash", 1))
        self.assertEqual(("away", "draw"), ending_below(league, "ash", 2))
        self.assertEqual(("home", "away"), ending_below(league, "elm", 2))
        self.assertEqual(("home", "home"), ending_below(league, "oak", 2))

    def test_draw_stands_between_home_and_away(self):
        league = made(("ash", "elm"), rules=("points",), games=[("elm", "ash", "left")])
        self.assertEqual(("draw",), ending_to(league, "ash", 1))
        self.assertEqual(("home",), ending_below(league, "ash", 1))
        no_draws = made(("ash", "elm"), WITHOUT_DRAWS, ("points",), [("elm", "ash", "left")])
        self.assertEqual(("away",), ending_to(no_draws, "ash", 1))

    def test_none_where_there_is_no_such_ending(self):
        league = made(games=EXAMPLE)
        self.assertIsNone(ending_to(league, "elm", 1))
        self.assertIsNone(ending_below(league, "ash", 2))
        self.assertIsNone(ending_below(league, "oak", 3))

    def test_sure_and_may(self):
        league = made(games=EXAMPLE)
        self.assertEqual([True, True, True], [sure(league, "ash", place) for place in (1, 2, 3)])
        self.assertEqual([False, False, True], [sure(league, "elm", place) for place in (1, 2, 3)])
        self.assertEqual([False, True, True], [may(league, "elm", place) for place in (1, 2, 3)])
        for call in (sure, may):
            for place in (1, 3):
                self.assertIs(bool, call(league, "elm", place).__class__)

    def test_no_game_left(self):
        league = made(games=[("ash", "elm", "home"), ("elm", "oak", "home"), ("oak", "ash", "off")])
        for side, place in (("ash", 1), ("elm", 2), ("oak", 3)):
            self.assertEqual((place, place), (best_place(league, side), worst_place(league, side)))
            for asked in (1, 2, 3):
                self.assertEqual(() if place <= asked else None, ending_to(league, side, asked))
                self.assertEqual(() if place > asked else None, ending_below(league, side, asked))
                self.assertIs(place <= asked, sure(league, side, asked))
                self.assertIs(place <= asked, may(league, side, asked))
                mine = points(league, side)
                self.assertEqual(mine if place <= asked else None, needs(league, side, asked))
                self.assertEqual(mine if place <= asked else None, least_with(league, side, asked))
                self.assertEqual(((), ()), (deciders(league, side, asked), enders(league, side, asked)))
            self.assertEqual(tuple(int(place == one) for one in (1, 2, 3)), scenarios(league, side))

    def test_withdrawn_sides_have_places(self):
        league = made(games=[("ash", "elm", "home"), ("elm", "oak", "left")])
        league.withdraw("ash")
        self.assertEqual((2, 3), (best_place(league, "ash"), worst_place(league, "ash")))
        self.assertEqual(("draw",), ending_below(league, "ash", 2))
        self.assertEqual((0, 2, 1), scenarios(league, "ash"))


class PointsTest(unittest.TestCase):
    def test_needs(self):
        # ash has four points, enough, and no game any more; oak has one, elm none, before they meet.
        league = made(games=EXAMPLE)
        self.assertEqual([4, 4, 4], [needs(league, "ash", place) for place in (1, 2, 3)])
        self.assertEqual([None, 3, 0], [needs(league, "elm", place) for place in (1, 2, 3)])
        self.assertEqual([None, 2, 1], [needs(league, "oak", place) for place in (1, 2, 3)])

    def test_least_with(self):
        league = made(games=EXAMPLE)
        self.assertEqual([4, 4, 4], [least_with(league, "ash", place) for place in (1, 2, 3)])
        self.assertEqual([None, 3, 0], [least_with(league, "elm", place) for place in (1, 2, 3)])

    def test_needs_only_what_it_may_have(self):
        # With four of six points ash may still be second, with six not: five it never has.
        league = made(("elm", "ash", "oak"), games=[("ash", "elm", "left"), ("ash", "oak", "left"),
                                                     ("elm", "oak", "home")])
        self.assertEqual(6, needs(league, "ash", 1))
        self.assertEqual(4, least_with(league, "ash", 1))

    def test_none_if_all_that_it_can_get_may_not_do(self):
        # ash may come first, but however much it gets, elm may have more.
        league = made(games=[("elm", "oak", "home"), ("elm", "oak", "left"), ("ash", "oak", "left")])
        self.assertIsNone(needs(league, "ash", 1))
        self.assertTrue(may(league, "ash", 2))
        level = made(games=[("elm", "oak", "left"), ("elm", "oak", "left"), ("ash", "oak", "left")])
        self.assertTrue(may(level, "ash", 1))
        self.assertIsNone(needs(level, "ash", 1))
        self.assertEqual(3, least_with(level, "ash", 1))

    def test_more_than_all_points_that_were_once_short(self):
        for seed in range(150):
            league = drawn_league(seed, 3)
            for side in league.sides():
                results = told_results(league, side)
                for place in range(1, len(league.sides()) + 1):
                    self.assertEqual(told_needs(results, place), needs(league, side, place))

    def test_points_of_a_loss_count(self):
        league = made(("ash", "elm"), (5, 3, 1), ("points",), [("elm", "ash", "left")])
        self.assertEqual((3, 3), (needs(league, "ash", 1), least_with(league, "ash", 1)))
        self.assertEqual((1, 1), (needs(league, "ash", 2), least_with(league, "ash", 2)))
        self.assertEqual((5, 5), (needs(league, "elm", 1), least_with(league, "elm", 1)))


class PairsTest(unittest.TestCase):
    def setUp(self):
        self.league = made(games=[("ash", "elm", "home"), ("elm", "oak", "left"), ("oak", "ash", "left")])

    def test_deciders(self):
        # Only oak may pass ash: by beating it, if elm does not beat oak.
        self.assertEqual(((1, "home"), (2, "draw"), (2, "away")), deciders(self.league, "ash", 1))
        self.assertEqual(((1, "away"),), deciders(self.league, "oak", 2))
        self.assertEqual(((1, "home"),), deciders(self.league, "elm", 2))
        for side, place in (("ash", 2), ("oak", 1), ("elm", 1), ("elm", 3)):
            self.assertEqual((), deciders(self.league, side, place))

    def test_enders(self):
        self.assertEqual(((1, "home"), (2, "draw"), (2, "away")), enders(self.league, "oak", 1))
        self.assertEqual(((1, "home"),), enders(self.league, "oak", 2))
        self.assertEqual(((1, "away"),), enders(self.league, "elm", 2))
        for side, place in (("ash", 1), ("ash", 3), ("elm", 1), ("oak", 3)):
            self.assertEqual((), enders(self.league, side, place))

    def test_none_if_sure_or_out_already(self):
        league = made(games=[("ash", "elm", "home"), ("ash", "oak", "home"), ("elm", "oak", "left")])
        self.assertEqual(((), ()), (deciders(league, "ash", 1), enders(league, "ash", 1)))
        self.assertEqual(((), ()), (deciders(league, "elm", 1), enders(league, "elm", 1)))
        self.assertEqual((((2, "home"), (2, "draw")), ((2, "away"),)),
                         (deciders(league, "elm", 2), enders(league, "elm", 2)))

    def test_games_are_told_by_their_numbers_and_draws_only_where_there_are_such(self):
        league = made(("ash", "elm"), WITHOUT_DRAWS, ("points",),
                      [("ash", "elm", "off"), ("ash", "elm", "left"), ("elm", "ash", "away"), ("elm", "ash", "left")])
        self.assertEqual(((1, "home"), (3, "away")), deciders(league, "ash", 1))
        self.assertEqual(((1, "home"), (3, "away")), enders(league, "elm", 1))


class ScenariosTest(unittest.TestCase):
    def test_counts_for_each_place(self):
        league = made(games=EXAMPLE)
        self.assertEqual([(3, 0, 0), (0, 1, 2), (0, 2, 1)], [scenarios(league, side) for side in TRIO])
        league = made(games=TWO_LEFT)
        self.assertEqual([(3, 4, 2), (5, 2, 2), (1, 3, 5)], [scenarios(league, side) for side in TRIO])

    def test_eight_games_of_three_outcomes(self):
        league = made(games=[("ash", "elm", "left"), ("elm", "oak", "left"), ("oak", "ash", "left")] * 2
                      + [("ash", "elm", "left"), ("elm", "oak", "left")], rules=("points", "among", "away"))
        for side in TRIO:
            compare(self, league, side, told_results(league, side), (1, 2, 3))


def told_needs(results, place):
    """As [13] says it, one number after the other."""
    for least in sorted({gained for ending, found, gained in results}):
        if all(found <= place for ending, found, gained in results if gained >= least):
            return least
    return None


def told_deciders(league, results, place, is_one):
    """As [14] says it: for each pair, what its endings give; is_one is all or not any."""
    if is_one(found <= place for ending, found, gained in results):
        return ()
    pairs = []
    for (step, number), outcome in itertools.product(enumerate(league.left()), outcomes(league)):
        if is_one(found <= place for ending, found, gained in results if ending[step] == outcome):
            pairs.append((number, outcome))
    return tuple(pairs)


def none(values):
    return not any(values)


def compare(case, league, side, results, places):
    """All that is asked of this side is as the results tell."""
    found_places = [found for ending, found, gained in results]
    case.assertEqual(min(found_places), best_place(league, side))
    case.assertEqual(max(found_places), worst_place(league, side))
    counts = tuple(found_places.count(place) for place in range(1, len(league.sides()) + 1))
    case.assertEqual(counts, scenarios(league, side))
    for place in places:
        to = [ending for ending, found, gained in results if found <= place]
        below = [ending for ending, found, gained in results if found > place]
        case.assertEqual(to[0] if to else None, ending_to(league, side, place))
        case.assertEqual(below[0] if below else None, ending_below(league, side, place))
        case.assertIs(not below, sure(league, side, place))
        case.assertIs(bool(to), may(league, side, place))
        case.assertEqual(told_needs(results, place), needs(league, side, place))
        case.assertEqual(min((gained for ending, found, gained in results if found <= place), default=None),
                         least_with(league, side, place))
        if len(league.left()) <= 6:
            case.assertEqual(told_deciders(league, results, place, all), deciders(league, side, place))
            case.assertEqual(told_deciders(league, results, place, none), enders(league, side, place))


class SecondReckoningTest(unittest.TestCase):
    def test_many_leagues(self):
        for seed in range(150):
            league = drawn_league(seed)
            before = snapshot(league)
            with self.subTest(seed=seed, league=before):
                for side in league.sides():
                    results = told_results(league, side)
                    compare(self, league, side, results, range(1, len(league.sides()) + 1))
                    self.assertEqual(endings_count(league), len(results))
                self.assertEqual(before, snapshot(league))

    def test_more_games_left(self):
        for seed in range(1000, 1012):
            league = drawn_league(seed, 7)
            with self.subTest(seed=seed, league=snapshot(league)):
                for side in league.sides()[:2]:
                    compare(self, league, side, told_results(league, side), (1, 2, len(league.sides())))

    def test_endings_lead_where_they_are_told_to(self):
        for seed in range(200, 240):
            league = drawn_league(seed)
            for side in league.sides():
                for place in range(1, len(league.sides()) + 1):
                    to, below = ending_to(league, side, place), ending_below(league, side, place)
                    self.assertTrue(to is None or place_of(ended(league, to), side) <= place)
                    self.assertTrue(below is None or place_of(ended(league, below), side) > place)


if __name__ == "__main__":
    unittest.main()
