"""Points [20] to [23]: fixtures, their breaks, and games out of rounds."""

import itertools
import random
import unittest

from stillmay.errors import BadSide, BadValue, TooMany
from stillmay.fixtures import break_count, breaks, drawn_up, is_fixtures, pattern, put_in, returned
from tests.helper import EIGHT, NO_STRINGS, TEN, TRIO, as_lists, caught, deep, expect, made, snapshot

FOUR = EIGHT[:4]
COUNTS = (2, 4, 6, 8)
# What are no sides of fixtures.
NO_SIDES = NO_STRINGS + (
    TRIO, EIGHT[:5], EIGHT[:7], EIGHT + ("pine",), TEN, "ash", "", "ashelm", ("ash", "ash"),
    ("ash", "elm", "oak", "ash"), ("ash", "Elm"), ("ash", ""), ("ash", "abcdefghi"), ("ash", None), ("ash", 1),
    (True, False), ("ash", ("elm",)), ["ash", ["elm"]], ("ash", "el m"), ("ash", "elm1"), deep(40), ("ash", deep(39)),
    (("ash", "elm"),), ("ash", "elm\n"), ("ash", "\u00e4sh"))
# Those of point [21] for four and six sides, told by their positions.
DRAWN_UP = {
    2: (((1, 0),),),
    4: (((3, 0), (1, 2)), ((1, 3), (2, 0)), ((3, 2), (0, 1))),
    6: (((5, 0), (1, 4), (3, 2)), ((1, 5), (2, 0), (4, 3)), ((5, 2), (3, 1), (0, 4)),
        ((3, 5), (4, 2), (1, 0)), ((5, 4), (0, 3), (2, 1))),
    8: (((7, 0), (1, 6), (5, 2), (3, 4)), ((1, 7), (2, 0), (6, 3), (4, 5)), ((7, 2), (3, 1), (0, 4), (5, 6)),
        ((3, 7), (4, 2), (1, 5), (6, 0)), ((7, 4), (5, 3), (2, 6), (0, 1)), ((5, 7), (6, 4), (3, 0), (1, 2)),
        ((7, 6), (0, 5), (4, 1), (2, 3))),
}
ROUNDS = ((("ash", "elm"), ("oak", "fir")), (("oak", "ash"), ("elm", "fir")), (("ash", "fir"), ("elm", "oak")))


def told_is_fixtures(sides, rounds):
    """Whether rounds of pairs of names are fixtures, by the words of the document."""
    for pairs in rounds:
        if any(sum(side in pair for pair in pairs) != 1 for side in sides) or 2 * len(pairs) != len(sides):
            return False
    met = [set(pair) for pairs in rounds for pair in pairs]
    return all(met.count({one, other}) == 1 for one, other in itertools.combinations(sides, 2))


def told_pattern(rounds, side):
    signs = ""
    for pairs in rounds:
        for home, away in pairs:
            signs += "H" * (home == side) + "A" * (away == side)
    return signs


def turned(rounds, dice):
    """Fixtures of the same sides: rounds and pairs in another sequence, some pairs turned round."""
    drawn = [[dice.choice((pair, pair[::-1])) for pair in dice.sample(pairs, len(pairs))] for pairs in rounds]
    return dice.sample(drawn, len(drawn))


class DrawnUpTest(unittest.TestCase):
    def test_pair_by_pair(self):
        for many, rounds in DRAWN_UP.items():
            for sides in (TEN[:many], TEN[::-1][:many]):
                due = tuple(tuple((sides[home], sides[away]) for home, away in pairs) for pairs in rounds)
                self.assertEqual(due, drawn_up(sides))
                self.assertEqual(due, drawn_up(list(sides)))

    def test_by_the_words_of_the_document(self):
        for many in COUNTS:
            sides, turn = EIGHT[:many], many - 1
            rounds = drawn_up(sides)
            self.assertEqual(many - 1, len(rounds))
            for number, pairs in enumerate(rounds):
                self.assertEqual(many // 2, len(pairs))
                first = (sides[turn], sides[number])
                self.assertEqual(first if number % 2 == 0 else first[::-1], pairs[0])
                for step in range(1, many // 2):
                    one, other = sides[(number + step) % turn], sides[(number - step) % turn]
                    self.assertEqual((one, other) if step % 2 else (other, one), pairs[step])

    def test_they_are_fixtures_with_the_fewest_breaks(self):
        for many in COUNTS:
            sides = EIGHT[:many]
            self.assertIs(True, is_fixtures(sides, drawn_up(sides)))
            self.assertTrue(told_is_fixtures(sides, drawn_up(sides)))
            self.assertEqual(many - 2, break_count(sides, drawn_up(sides)))
            self.assertEqual(2, sum(not numbers for numbers in breaks(sides, drawn_up(sides))))

    def test_they_are_tuples_within(self):
        for pairs in drawn_up(list(EIGHT)):
            self.assertIs(tuple, pairs.__class__)
            self.assertEqual([tuple] * 4, [pair.__class__ for pair in pairs])

    def test_what_are_no_sides(self):
        for sides in NO_SIDES:
            expect(self, BadValue, "at", 0, drawn_up, sides)


class IsFixturesTest(unittest.TestCase):
    def expect_none(self, rounds, sides=FOUR):
        self.assertIs(False, is_fixtures(sides, rounds), rounds)
        expect(self, BadValue, "at", 1, breaks, sides, rounds)
        expect(self, BadValue, "at", 1, break_count, sides, rounds)
        expect(self, BadValue, "at", 1, pattern, sides, rounds, sides[0])
        expect(self, BadValue, "at", 1, pattern, sides, rounds, "no")

    def test_right_ones_of_each_kind(self):
        self.assertIs(True, is_fixtures(FOUR, ROUNDS))
        self.assertIs(True, is_fixtures(list(FOUR), as_lists(ROUNDS)))
        self.assertIs(True, is_fixtures(FOUR, [tuple(list(pair) for pair in pairs) for pairs in ROUNDS]))
        self.assertIs(True, is_fixtures(FOUR, tuple(list(pairs) for pairs in ROUNDS)))
        self.assertIs(True, is_fixtures(FOUR[::-1], ROUNDS))

    def test_in_any_sequence_and_turned_round(self):
        for seed in range(60):
            dice = random.Random(seed)
            sides = EIGHT[:dice.choice(COUNTS)]
            rounds = turned(drawn_up(sides), dice)
            self.assertIs(True, is_fixtures(sides, rounds))
            self.assertIs(True, is_fixtures(dice.sample(sides, len(sides)), rounds))

    def test_a_pair_turned_round_is_right_still(self):
        for at, pairs in enumerate(ROUNDS):
            for which in (0, 1):
                other = list(pairs)
                other[which] = pairs[which][::-1]
                self.assertIs(True, is_fixtures(FOUR, ROUNDS[:at] + (tuple(other),) + ROUNDS[at + 1:]))

    def test_rounds_too_many_or_too_few(self):
        for many in COUNTS:
            sides = EIGHT[:many]
            rounds = drawn_up(sides)
            self.expect_none(rounds[1:], sides)
            self.expect_none(rounds[:-1], sides)
            self.expect_none(rounds + rounds[:1], sides)
            self.expect_none(rounds + ((),), sides)
            self.expect_none(((),) + rounds, sides)
            self.expect_none(rounds + rounds, sides)
            self.expect_none(returned(rounds), sides)
            self.expect_none((), sides)
            self.expect_none([], sides)
            self.expect_none(((),) * (many - 1), sides)

    def test_a_side_twice_in_a_round_or_not_at_all(self):
        # Each two meet once, but not all of them in the rounds in which they should.
        self.expect_none((ROUNDS[0], (("oak", "ash"), ("ash", "fir")), (("elm", "fir"), ("elm", "oak"))))
        self.expect_none((ROUNDS[0][:1], ROUNDS[1], ROUNDS[2] + ROUNDS[0][1:]))
        self.expect_none((ROUNDS[0][:1], ROUNDS[1], ROUNDS[2]))
        self.expect_none((ROUNDS[0] + ROUNDS[0][:1],) + ROUNDS[1:])
        self.expect_none((ROUNDS[0] + ROUNDS[1] + ROUNDS[2],))
        self.expect_none(tuple((pair,) for pairs in ROUNDS for pair in pairs))

    def test_two_sides_that_meet_twice(self):
        self.expect_none((ROUNDS[0], ROUNDS[0], ROUNDS[2]))
        back = tuple(pair[::-1] for pair in ROUNDS[0])
        self.expect_none((ROUNDS[0], back, ROUNDS[2]))
        self.expect_none((ROUNDS[0], back[::-1], ROUNDS[2]))
        self.expect_none(ROUNDS + (back,))
        self.expect_none(((("ash", "elm"),), (("elm", "ash"),)), ("ash", "elm"))

    def test_a_side_against_itself(self):
        self.expect_none((ROUNDS[0], ROUNDS[1], (("ash", "fir"), ("elm", "elm"))))
        self.expect_none((ROUNDS[0], ROUNDS[1], (("ash", "ash"), ("elm", "oak"))))
        self.expect_none(((("ash", "ash"),),), ("ash", "elm"))
        self.expect_none(((("ash", "ash"), ("elm", "elm")),), ("ash", "elm"))

    def test_what_is_no_pair_and_who_is_no_side(self):
        pairs = NO_STRINGS + ("", "ae", "ash", ("elm",), ["oak"], ("elm", "oak", "elm"), ("elm", "oak", "fir"), (),
                              ("elm", "yew"), ("no", "oak"), ("elm", None), (None, "oak"), ("elm", ["oak"]),
                              (("elm",), "oak"), ("elm", "Oak"), ("elm", ""), (1, True), ("elm", 0), deep(38),
                              ("elm", deep(37)), (("elm", "oak"),), [["elm", "oak"]])
        for pair in pairs:
            self.expect_none((ROUNDS[0], ROUNDS[1], (("ash", "fir"), pair)))
            self.expect_none([ROUNDS[0], ROUNDS[1], [pair, ["ash", "fir"]]])
            self.expect_none((ROUNDS[0], (pair, ROUNDS[1][1]), ROUNDS[2]))
            self.expect_none(ROUNDS[:2] + (ROUNDS[2] + (pair,),))

    def test_what_is_no_round(self):
        for pairs in NO_STRINGS + ("", "ash", "ab", ("elm", "oak"), deep(39), (None,), ("ab", "cd")):
            self.expect_none(ROUNDS[:2] + (pairs,))
            self.expect_none([pairs] + list(ROUNDS[1:]))
            self.expect_none(ROUNDS + (pairs,))

    def test_what_are_no_rounds(self):
        for rounds in NO_STRINGS + ("", "ash", "abc", ROUNDS[0], ROUNDS[0][0], (ROUNDS,), deep(40), "a" * 200000):
            self.expect_none(rounds)
            self.expect_none(rounds, ("ash", "elm"))

    def test_fixtures_of_other_sides(self):
        self.expect_none(drawn_up(EIGHT), EIGHT[:6])
        self.expect_none(drawn_up(EIGHT[:6]), EIGHT)
        self.expect_none(drawn_up(EIGHT[:6] + ("pine", "a")), EIGHT)
        self.expect_none(ROUNDS, ("ash", "elm", "oak", "yew"))

    def test_what_are_no_sides(self):
        for sides in NO_SIDES:
            for rounds in (ROUNDS, (), None, ((("ash", "elm"),),)):
                expect(self, BadValue, "at", 0, is_fixtures, sides, rounds)

    def test_spoilt_ones(self):
        found = {True: 0, False: 0}
        for seed in range(400):
            dice = random.Random(seed)
            sides = EIGHT[:dice.choice(COUNTS)]
            rounds = turned(drawn_up(sides), dice)
            for _ in range(dice.randint(0, 2)):
                pairs = dice.choice(rounds)
                pairs[dice.randrange(len(pairs))] = tuple(dice.sample(sides, 2))
            if dice.random() < 0.2:
                one, other = dice.choice(rounds), dice.choice(rounds)
                one[0], other[0] = other[0], one[0]
            due = told_is_fixtures(sides, rounds)
            self.assertIs(due, is_fixtures(sides, rounds), rounds)
            found[due] += 1
        self.assertGreater(min(found.values()), 50)


class BreaksTest(unittest.TestCase):
    def test_the_example(self):
        rounds = drawn_up(FOUR)
        self.assertEqual(["AAH", "HHA", "AHA", "HAH"], [pattern(FOUR, rounds, side) for side in FOUR])
        self.assertEqual(((1,), (1,), (), ()), breaks(FOUR, rounds))
        self.assertEqual(2, break_count(FOUR, rounds))
        self.assertEqual(["HAH", "AHH", "HHA", "AAA"], [pattern(FOUR, ROUNDS, side) for side in FOUR])
        self.assertEqual(((), (2,), (1,), (1, 2)), breaks(FOUR, ROUNDS))
        self.assertEqual(4, break_count(FOUR, ROUNDS))

    def test_in_the_sequence_of_sides(self):
        self.assertEqual(((1, 2), (1,), (2,), ()), breaks(FOUR[::-1], ROUNDS))
        self.assertEqual(((2,), (), (1, 2), (1,)), breaks(["elm", "ash", "fir", "oak"], as_lists(ROUNDS)))
        self.assertEqual("AAA", pattern(["elm", "ash", "fir", "oak"], as_lists(ROUNDS), "fir"))

    def test_two_sides_have_none(self):
        for rounds in (((("ash", "elm"),),), [[["elm", "ash"]]]):
            self.assertEqual(((), ()), breaks(("ash", "elm"), rounds))
            self.assertEqual(0, break_count(("ash", "elm"), rounds))
        self.assertEqual("A", pattern(("ash", "elm"), [[["elm", "ash"]]], "ash"))

    def check_all(self, sides, rounds):
        patterns = [told_pattern(rounds, side) for side in sides]
        self.assertEqual(patterns, [pattern(sides, rounds, side) for side in sides])
        due = tuple(tuple(number for number in range(1, len(signs)) if signs[number - 1:number + 1] in ("HH", "AA"))
                    for signs in patterns)
        self.assertEqual(due, breaks(sides, rounds))
        self.assertEqual(sum(map(len, due)), break_count(sides, rounds))
        self.assertEqual(len(sides), len(set(patterns)))
        self.assertLessEqual(sum(not numbers for numbers in due), 2)
        self.assertGreaterEqual(break_count(sides, rounds), len(sides) - 2)

    def test_all_fixtures_of_four_sides(self):
        for drawn in itertools.permutations(ROUNDS):
            for signs in itertools.product((1, -1), repeat=6):
                rounds = [[pair[::signs[2 * at + which]] for which, pair in enumerate(pairs)]
                          for at, pairs in enumerate(drawn)]
                self.check_all(FOUR, rounds)

    def test_some_fixtures_of_more_sides(self):
        for seed in range(80):
            dice = random.Random(seed)
            sides = EIGHT[:dice.choice((6, 8))]
            self.check_all(sides, turned(drawn_up(dice.sample(sides, len(sides))), dice))

    def test_errors_in_their_turn(self):
        for sides in NO_SIDES:
            for rounds in (ROUNDS, (), None):
                for call in (breaks, break_count):
                    expect(self, BadValue, "at", 0, call, sides, rounds)
                expect(self, BadValue, "at", 0, pattern, sides, rounds, "ash")
                expect(self, BadValue, "at", 0, pattern, sides, rounds, "no")
        expect(self, BadValue, "at", 1, pattern, FOUR, ROUNDS[:2], "no")
        for side in NO_STRINGS + ("", "yew", "Ash", "ash ", "H", deep(40)):
            expect(self, BadSide, "name", side, pattern, FOUR, ROUNDS, side)


class ReturnedTest(unittest.TestCase):
    def test_the_rounds_once_more_turned_round(self):
        due = ((("ash", "elm"), ("oak", "fir")), (("oak", "ash"),), (("elm", "ash"), ("fir", "oak")), (("ash", "oak"),))
        for rounds in (due[:2], as_lists(due[:2]), list(due[:2]), (due[0], [["oak", "ash"]])):
            self.assertEqual(due, returned(rounds))

    def test_empty_rounds_and_none(self):
        self.assertEqual((), returned(()))
        self.assertEqual((), returned([]))
        self.assertEqual(((), ()), returned([[]]))
        self.assertEqual(((), (("a", "b"),), (), (("b", "a"),)), returned(((), [("a", "b")])))

    def test_any_names(self):
        self.assertEqual(((("a", "a"), ("b", "c")), (("a", "a"), ("c", "b"))), returned([(["a", "a"], ("b", "c"))]))

    def test_tuples_within(self):
        for rounds in (ROUNDS, as_lists(ROUNDS)):
            found = returned(rounds)
            self.assertIs(tuple, found.__class__)
            for pairs in found:
                self.assertIs(tuple, pairs.__class__)
                self.assertTrue(all(pair.__class__ is tuple for pair in pairs))

    def test_twice_returned(self):
        for many in COUNTS:
            rounds = returned(drawn_up(EIGHT[:many]))
            pairs = [pair for told in rounds for pair in told]
            self.assertEqual(sorted(itertools.permutations(EIGHT[:many], 2)), sorted(pairs))

    def test_what_is_handed_in_is_not_changed(self):
        rounds = as_lists(ROUNDS)
        found = returned(rounds)
        self.assertEqual(as_lists(ROUNDS), rounds)
        rounds[0][0][0] = "no"
        rounds[1].clear()
        self.assertEqual(returned(ROUNDS), found)


class PutInTest(unittest.TestCase):
    def one_by_one(self, league, rounds):
        """The numbers that adding one by one gives, on a copy."""
        twin = league.copy()
        return tuple(twin.add_game(home, away) for pairs in rounds for home, away in pairs), twin

    def expect_none(self, league, error, attribute, value, rounds):
        before = snapshot(league)
        expect(self, error, attribute, value, put_in, league, rounds)
        self.assertEqual(before, snapshot(league))

    def test_behind_games_that_are_there(self):
        league = made(FOUR, games=[("ash", "elm", "home"), ("elm", "oak", "off"), ("oak", "fir", "left")])
        numbers, twin = self.one_by_one(league, ROUNDS)
        self.assertEqual(tuple(range(3, 9)), numbers)
        self.assertEqual(numbers, put_in(league, ROUNDS))
        self.assertEqual(snapshot(twin), snapshot(league))
        self.assertEqual(tuple(pair + ("left",) for pairs in ROUNDS for pair in pairs), league.games()[3:])
        self.assertEqual(("home", "off", "left"), tuple(state for home, away, state in league.games()[:3]))

    def test_lists_and_any_sides(self):
        league = made(FOUR)
        self.assertEqual((0, 1, 2), put_in(league, [[["ash", "elm"], ("elm", "ash")], (["ash", "elm"],)]))
        self.assertEqual((3, 4, 5, 6, 7, 8), put_in(league, as_lists(ROUNDS)))
        self.assertEqual(9, len(league.games()))
        for game in league.games():
            self.assertIs(tuple, game.__class__)

    def test_nothing_to_add(self):
        league = made(FOUR, games=[("ash", "elm", "left")] * 80)
        before = snapshot(league)
        for rounds in ((), [], ((),), [[]], [(), []]):
            self.assertEqual((), put_in(league, rounds))
        self.assertEqual(before, snapshot(league))
        self.assertEqual((0,), put_in(made(), ((), [("ash", "elm")], ())))

    def test_what_is_handed_in_is_not_kept(self):
        league, rounds = made(FOUR), as_lists(ROUNDS)
        put_in(league, rounds)
        self.assertEqual(as_lists(ROUNDS), rounds)
        rounds[0][0][0] = "no"
        self.assertEqual(("ash", "elm", "left"), league.games()[0])

    def test_returned_fixtures(self):
        league = made(EIGHT)
        self.assertEqual(tuple(range(56)), put_in(league, returned(drawn_up(EIGHT))))
        self.expect_none(league, TooMany, "word", "games", drawn_up(EIGHT))
        self.assertEqual(tuple(range(56, 71)), put_in(league, drawn_up(EIGHT[:6])))

    def test_what_is_no_side(self):
        league = made(FOUR, games=[("ash", "elm", "home")])
        for value in NO_STRINGS + ("", "yew", "Ash", "ash ", deep(37)):
            for pair in ((value, "elm"), ["elm", value], (value, value), (value, "no")):
                self.expect_none(league, BadSide, "name", value, [[("oak", "fir")], [pair], None])
                self.expect_none(league, BadSide, "name", value, ((pair, ("ash", "ash"), "no"),))

    def test_a_withdrawn_side(self):
        league = made(FOUR)
        league.withdraw("oak")
        self.expect_none(league, BadSide, "name", "oak", ROUNDS)
        self.expect_none(league, BadSide, "name", "oak", [[("ash", "elm")], [["oak", "oak"]]])
        self.assertEqual((0, 1), put_in(league, [[("ash", "elm")], [("elm", "fir")]]))

    def test_a_pair_of_one_side(self):
        league = made(FOUR)
        self.expect_none(league, BadValue, "at", 1, [[("ash", "elm"), ("ash", "ash"), ("ash", "no")]])

    def test_what_is_no_pair(self):
        league = made(FOUR)
        for pair in (None, True, 0, -1, "", "ae", "ash", (), [], ("ash",), ["ash", "elm", "oak"], [("ash", "elm")]):
            self.expect_none(league, BadValue, "at", 1, [[("ash", "elm"), pair]])
            self.expect_none(league, BadValue, "at", 1, ((pair, ("ash", "no")), None))

    def test_what_is_no_round(self):
        league = made(FOUR)
        for pairs in (None, True, 0, -1, "", "ae", "ash", 10 ** 30):
            self.expect_none(league, BadValue, "at", 1, [[("ash", "elm")], pairs])
            self.expect_none(league, BadValue, "at", 1, (pairs, (("ash", "no"),)))
        # A pair in the place of a round: its members are no pairs.
        self.expect_none(league, BadValue, "at", 1, (("ash", "elm"),))

    def test_what_are_no_rounds(self):
        league = made(FOUR)
        for rounds in (None, True, False, 0, 1, -1, 10 ** 30, "", "ash", "a" * 200000, deep(40), ("ash",), ["a"]):
            self.expect_none(league, BadValue, "at", 1, rounds)

    def test_each_at_its_turn(self):
        league = made(FOUR)
        self.expect_none(league, BadSide, "name", "no", [[("ash", "no")], [("ash", "ash")], None])
        self.expect_none(league, BadValue, "at", 1, [[("ash", "ash")], [("ash", "no")], None])
        self.expect_none(league, BadValue, "at", 1, [[("ash", "elm")], None, [("ash", "no")]])
        self.expect_none(league, BadSide, "name", "no", [[("ash", "no"), None]])
        self.expect_none(league, BadSide, "name", "no", [[("no", "yes"), ("ash", "yes")]])

    def test_an_eighty_first_game(self):
        for there in (80, 79, 78, 75):
            league = made(FOUR, games=[("ash", "elm", "off")] * there)
            fitting = [[("elm", "ash")] * (80 - there)]
            self.expect_none(league, TooMany, "word", "games", fitting + [[("ash", "elm")]])
            self.expect_none(league, TooMany, "word", "games", [fitting[0] + [("ash", "elm")] * 5])
            # Behind the 81st nothing matters any more; of the 81st itself sides and pair come first.
            self.expect_none(league, TooMany, "word", "games", fitting + [[("ash", "elm"), ("no", "elm")], None])
            self.expect_none(league, BadSide, "name", "no", fitting + [[("ash", "no")]])
            self.expect_none(league, BadValue, "at", 1, fitting + [[("ash", "ash")]])
            self.expect_none(league, BadValue, "at", 1, fitting + [["ash"]])
            self.expect_none(league, BadValue, "at", 1, fitting + [None])
            self.assertEqual(tuple(range(there, 80)), put_in(league, fitting))

    def test_as_adding_one_by_one(self):
        for seed in range(200):
            dice = random.Random(seed)
            league = made(FOUR, games=[("ash", "elm", "left")] * dice.choice((0, 3, 76, 79, 80)))
            if dice.random() < 0.3:
                league.withdraw("fir")
            names = FOUR[:3] * 6 + ("fir", "no")
            rounds = [[dice.choices(names, k=2) for _ in range(dice.randint(0, 3))] for _ in range(dice.randint(0, 3))]
            due = caught(self.one_by_one, league, rounds)
            if due is None:
                numbers, twin = self.one_by_one(league, rounds)
                self.assertEqual(numbers, put_in(league, rounds))
                self.assertEqual(snapshot(twin), snapshot(league))
            else:
                before = snapshot(league)
                found = caught(put_in, league, rounds)
                self.assertEqual((due.__class__, vars(due)), (found.__class__, vars(found)))
                self.assertEqual(before, snapshot(league))


if __name__ == "__main__":
    unittest.main()
