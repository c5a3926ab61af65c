"""Points [24], [25] and [28]: pairings, barriers, and the next round of a league."""

import itertools
import random
import unittest

from stillmay.errors import BadValue
from stillmay.leagues import League
from stillmay.pairings import barrier, met_in, next_round, pairing, pairing_paper
from stillmay.standings import order as order_of
from tests.helper import (EIGHT, NO_STRINGS, PLAIN, TEN, TRIO, WITH_DRAWS, deep, drawn_league, drawn_order, expect,
                          made, snapshot, told_barrier, told_is_barrier, told_pairing, with_left)

CALLS = (pairing, barrier, pairing_paper)
FOUR = EIGHT[:4]
# What is no order of sides.
NO_ORDERS = NO_STRINGS + (
    TRIO, EIGHT[:5], EIGHT + ("pine",), TEN + ("b",), TEN + ("b", "c"), "ash", "", "ashelm",
    ("ash", "ash"), ("ash", "elm", "oak", "ash"), ("ash", "Elm"), ("ash", ""), ("ash", "abcdefghi"), ("ash", None),
    ("ash", 1), (True, False), ("ash", ("elm",)), ["ash", ["elm"]], ("ash", "el m"), ("ash", "elm1"), deep(40),
    ("ash", deep(39)), (("ash", "elm"),), ("ash", "\u00e4sh"))
# What are no pairs of unlike sides of the order ash, elm, oak, fir.
NO_MEETINGS = tuple(value for value in NO_STRINGS if value not in ((), [])) + (
    "", "ash", "ae", ((),), ([],), ("ash", "elm"), (("ash",),), [["ash", "elm", "oak"]], (("ash", "ash"),),
    (("ash", "yew"),), [("yew", "ash")], (("ash", "elm"), ("ash", "no")), (("ash", None),), ((None, None),), ((1, 2),),
    (("ash", ["elm"]),), ((["ash"], "elm"),), ("ae",), (("ash", "elm"), None), (("ash", "elm"), "oakfir"), (None,),
    (True,), deep(40), (("ash", deep(38)),), (("ash", ""),), (("ash", "ELM"),))


class PairingTest(unittest.TestCase):
    def test_nobody_has_met(self):
        for many in (2, 4, 6, 8, 10):
            sides = TEN[:many]
            pairs = tuple((sides[at], sides[at + 1]) for at in range(0, many, 2))
            for met in ((), []):
                self.assertEqual(pairs, pairing(sides, met))
                self.assertEqual(pairs, pairing(list(sides), met))
                self.assertIsNone(barrier(sides, met))

    def test_the_nearest_partner_that_leaves_a_pairing(self):
        self.assertEqual((("ash", "oak"), ("elm", "fir")), pairing(FOUR, [("ash", "elm")]))
        # ash could meet elm, but then oak and fir, who have met, would be left.
        self.assertEqual((("ash", "oak"), ("elm", "fir")), pairing(FOUR, [("oak", "fir")]))
        self.assertEqual((("ash", "fir"), ("elm", "oak")), pairing(FOUR, [("oak", "fir"), ("elm", "fir")]))
        self.assertIsNone(pairing(FOUR, [("ash", "fir"), ("oak", "fir"), ("elm", "fir")]))
        self.assertEqual((("fir", "oak"), ("elm", "ash")), pairing(("fir", "oak", "elm", "ash"), ()))
        self.assertEqual((("ash", "elm"), ("oak", "yew"), ("fir", "box")), pairing(EIGHT[:6], [("oak", "fir")]))

    def test_two_sides(self):
        self.assertEqual((("b", "a"),), pairing(("b", "a"), ()))
        for met in ([("a", "b")], (["b", "a"],)):
            self.assertIsNone(pairing(("b", "a"), met))
            self.assertEqual((), barrier(("b", "a"), met))

    def test_met_either_way_round_and_twice(self):
        for met in ([("ash", "elm")], [("elm", "ash")], (["elm", "ash"],), (("ash", "elm"), ["elm", "ash"]),
                    [("ash", "elm")] * 40):
            self.assertEqual((("ash", "oak"), ("elm", "fir")), pairing(FOUR, met))

    def test_nothing_that_is_handed_in_is_changed(self):
        order, met = list(FOUR), [["ash", "elm"], ("oak", "fir")]
        for call in CALLS:
            call(order, met)
            self.assertEqual((list(FOUR), [["ash", "elm"], ("oak", "fir")]), (order, met))

    def test_later_changes_have_no_effect(self):
        order, met = list(FOUR), [["ash", "elm"]]
        pairs = pairing(order, met)
        order[0] = met[0][0] = "yew"
        self.assertEqual((("ash", "oak"), ("elm", "fir")), pairs)

    def test_against_a_slow_trying(self):
        sizes = {}
        for seed in range(330):
            order, met = drawn_order(seed)
            found = pairing(order, met)
            self.assertEqual(told_pairing(order, met), found, (order, met))
            self.assertEqual(found, pairing(tuple(order), tuple(met)))
            sizes.setdefault(len(order), set()).add(found is None)
        self.assertEqual({many: {True, False} for many in (2, 4, 6, 8, 10)}, sizes)


class BarrierTest(unittest.TestCase):
    def test_examples(self):
        # fir has met all others: by itself it is an odd part, and so are the other three.
        self.assertEqual((), barrier(FOUR, [("ash", "fir"), ("oak", "fir"), ("elm", "fir")]))
        # All could meet elm alone: three parts of one side are left without it.
        met = list(itertools.combinations(("ash", "oak", "fir"), 2))
        self.assertEqual(("elm",), barrier(FOUR, met))
        self.assertEqual(("elm",), barrier(["oak", "fir", "elm", "ash"], met))
        # Four of six could meet only the other two.
        met = list(itertools.combinations(("ash", "oak", "yew", "box"), 2))
        self.assertEqual(("elm", "fir"), barrier(EIGHT[:6], met))
        self.assertEqual(("fir", "elm"), barrier(EIGHT[5::-1], met))
        self.assertIsNone(barrier(FOUR, ()))

    def test_the_first_one_by_positions(self):
        # Each of elm and fir is a barrier by itself: without it three odd parts are left.
        sides = EIGHT[:6]
        free = [("ash", "elm"), ("elm", "oak"), ("elm", "fir"), ("fir", "yew"), ("fir", "box")]
        met = [pair for pair in itertools.combinations(sides, 2) if pair not in free]
        self.assertTrue(told_is_barrier(sides, ("elm",), met) and told_is_barrier(sides, ("fir",), met))
        self.assertEqual(("elm",), barrier(sides, met))
        self.assertEqual(("fir",), barrier(sides[::-1], met))

    def test_against_a_slow_trying(self):
        sizes = set()
        for seed in range(1000, 1330):
            order, met = drawn_order(seed)
            found = barrier(order, met)
            self.assertEqual(told_barrier(order, met), found, (order, met))
            self.assertEqual(found, barrier(tuple(order), tuple(met)))
            # One just if there is no pairing.
            self.assertEqual(found is None, pairing(order, met) is not None)
            if found is not None:
                sizes.add(len(found))
                self.assertTrue(told_is_barrier(order, found, met))
        self.assertGreaterEqual(sizes, {0, 1, 2})

    def test_barriers_of_each_size(self):
        # Those who could meet the first many alone, one of them too many for these.
        for many in range(5):
            sides = TEN[:2 * many + 2]
            met = list(itertools.combinations(sides[many:], 2))
            self.assertEqual(sides[:many], barrier(sides, met))
            self.assertEqual(sides[:many][::-1], barrier(sides[::-1], met))
            self.assertIsNone(pairing(sides, met))
            met.remove((sides[-2], sides[-1]))
            self.assertIsNone(barrier(sides, met))
            self.assertIsNotNone(pairing(sides, met))


class ErrorsTest(unittest.TestCase):
    def test_what_is_no_order(self):
        for value in NO_ORDERS:
            for call in CALLS:
                for met in ((), [("ash", "elm")], None, "x", (("ash",),)):
                    expect(self, BadValue, "at", 0, call, value, met)

    def test_what_is_not_met(self):
        for value in NO_MEETINGS:
            for call in CALLS:
                expect(self, BadValue, "at", 1, call, FOUR, value)
                expect(self, BadValue, "at", 1, call, list(FOUR), value)

    def test_orders_of_two_to_ten_names(self):
        for many in range(0, 13):
            sides = (TEN + ("b", "c"))[:many]
            if many in (2, 4, 6, 8, 10):
                self.assertEqual(many, 2 * len(pairing(sides, ())))
            else:
                for call in CALLS:
                    expect(self, BadValue, "at", 0, call, sides, ())

    def test_arguments_by_name(self):
        for call in CALLS:
            self.assertEqual(call(FOUR, [("oak", "fir")]), call(met=[("oak", "fir")], order=FOUR))


class MetInTest(unittest.TestCase):
    def test_games_left_ended_and_off(self):
        league = made(games=[("oak", "elm", "left"), ("ash", "elm", "off"), ("elm", "ash", "draw"),
                             ("ash", "oak", "home"), ("elm", "oak", "away"), ("oak", "elm", "left"),
                             ("ash", "oak", "off")])
        before = snapshot(league)
        self.assertEqual((("oak", "elm"), ("elm", "ash"), ("ash", "oak"), ("elm", "oak"), ("oak", "elm")),
                         met_in(league))
        self.assertEqual(before, snapshot(league))
        league.reopen(6)
        self.assertEqual(("ash", "oak"), met_in(league)[-1])
        league.withdraw("oak")
        self.assertEqual((("elm", "ash"),), met_in(league))
        self.assertEqual((), met_in(made()))
        self.assertEqual(with_left(56).games(), tuple(pair + ("left",) for pair in met_in(league=with_left(56))))


class NextRoundTest(unittest.TestCase):
    def test_an_even_number_of_sides(self):
        league = made(FOUR, games=[("oak", "ash", "home"), ("fir", "elm", "home")])
        self.assertEqual(("oak", "fir", "ash", "elm"), order_of(league))
        before = snapshot(league)
        self.assertEqual(((("oak", "fir"), ("ash", "elm")), None), next_round(league))
        self.assertEqual(before, snapshot(league))
        # A game that is left counts as met, one that is off does not.
        league.add_game("oak", "fir")
        self.assertEqual(((("oak", "elm"), ("fir", "ash")), None), next_round(league))
        league.call_off(2)
        self.assertEqual(((("oak", "fir"), ("ash", "elm")), None), next_round(league))

    def test_an_odd_number_of_sides(self):
        league = made(games=[("oak", "ash", "home")])
        self.assertEqual(("oak", "ash", "elm"), order_of(league))
        # The last one is left out, even where the others have met.
        self.assertEqual((None, "elm"), next_round(league))
        league.enter(0, "away")
        self.assertEqual((None, "oak"), next_round(made(games=[("ash", "elm", "draw")])))
        self.assertEqual(((("ash", "elm"),), "oak"), next_round(made(games=[("elm", "oak", "off")])))
        # Games of the one that is left out do not matter.
        league = made(EIGHT[:5], games=[("ash", "yew", "home"), ("elm", "yew", "home"), ("ash", "elm", "left")])
        self.assertEqual(((("ash", "oak"), ("elm", "fir")), "yew"), next_round(league))

    def test_withdrawn_sides(self):
        league = made(FOUR, games=[("fir", "ash", "home"), ("elm", "oak", "home"), ("elm", "fir", "draw")])
        self.assertEqual(("elm", "fir", "ash", "oak"), order_of(league))
        league.withdraw("ash")
        self.assertEqual(("elm", "fir", "ash", "oak"), order_of(league))
        self.assertEqual((None, "oak"), next_round(league))
        league.withdraw("fir")
        self.assertEqual((None, None), next_round(league))
        league.call_off(1)
        self.assertEqual(((("elm", "oak"),), None), next_round(league))
        league.withdraw("elm")
        self.assertEqual(((), "oak"), next_round(league))
        league.withdraw("oak")
        self.assertEqual(((), None), next_round(league))

    def test_two_sides_down_to_none(self):
        league = League(("ash", "elm"), WITH_DRAWS, PLAIN)
        self.assertEqual(((("ash", "elm"),), None), next_round(league))
        league.add_game("ash", "elm")
        self.assertEqual((None, None), next_round(league))
        league.enter(0, "away")
        league.call_off(0)
        self.assertEqual(((("ash", "elm"),), None), next_round(league=league))
        league.withdraw("ash")
        self.assertEqual(((), "elm"), next_round(league))
        league.withdraw("elm")
        self.assertEqual(((), None), next_round(league))

    def test_no_pairing(self):
        league = made(FOUR, games=[("fir", "ash", "left"), ("fir", "elm", "left"), ("oak", "fir", "left")])
        self.assertEqual((None, None), next_round(league))
        league = made(EIGHT[:5], games=[("fir", "ash", "left"), ("fir", "elm", "left"), ("oak", "fir", "left")])
        self.assertEqual((None, "yew"), next_round(league))

    def test_round_by_round(self):
        league = made(EIGHT, games=())
        dice = random.Random(28)
        rounds = 0
        while next_round(league)[0] is not None:
            for home, away in next_round(league)[0]:
                league.enter(league.add_game(home, away), dice.choice(("home", "draw", "away")))
            rounds += 1
        self.assertGreaterEqual(rounds, 4)
        self.assertEqual(4 * rounds, len({frozenset(pair) for pair in met_in(league)}))

    def test_against_a_slow_trying(self):
        left_out = set()
        for seed in range(700, 900):
            league = drawn_league(seed)
            for side in league.sides()[:seed % 4 if seed % 3 == 0 else 0]:
                if side not in league.withdrawn():
                    league.withdraw(side)
            playing = [side for side in order_of(league) if side not in league.withdrawn()]
            out = playing.pop() if len(playing) % 2 else None
            met = [game[:2] for game in league.games() if game[2] != "off" and set(game[:2]) <= set(playing)]
            self.assertEqual((told_pairing(playing, met), out), next_round(league))
            left_out.add((len(playing), out is None))
        self.assertGreater(len(left_out), 6)


if __name__ == "__main__":
    unittest.main()
