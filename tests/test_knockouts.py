"""Points [29] and [30]: the bracket, and its rounds as they are played."""

import itertools
import random
import unittest

from stillmay.errors import BadSide, BadValue
from stillmay.knockouts import draw, play, rounds_to_meet
from tests.helper import EIGHT, NO_STRINGS, TEN, TRIO, caught, deep, expect

PAIR, FOUR = EIGHT[:2], EIGHT[:4]
# What are no sides of a bracket.
NO_SIDES = NO_STRINGS + (
    TRIO, EIGHT[:5], EIGHT[:6], EIGHT[:7], EIGHT + ("pine",), TEN, "ash", "", "ab", "abcd", ("ash", "ash"),
    ("ash", "elm", "oak", "ash"), ("ash", "Elm"), ("ash", ""), ("ash", "abcdefghi"), ("ash", None), ("ash", 1),
    (True, False), ("ash", ("elm",)), ["ash", ["elm"]], ("ash", "el m"), ("ash", "elm1"), deep(40), ("ash", deep(39)),
    (("ash", "elm"),), ("ash", "elm\n"), ("ash", "\u00e4sh"), TEN * 2, EIGHT[:7] + ("ash",))
# What is handed in where a side or a winner is due, and is none of these eight.
NO_NAMES = NO_STRINGS + ("", "pine", "Ash", "ash ", "a", "as", "ashelm", deep(39), ("ash", "elm"), "a" * 200000)


def told_draw(sides):
    """The bracket, by the words of the document."""
    if len(sides) == 2:
        return list(sides)
    bracket = []
    for side in told_draw(sides[:len(sides) // 2]):
        bracket += [side, sides[len(sides) - 1 - sides.index(side)]]
    return bracket


def told_rounds_to_meet(sides, one, other):
    """The first round in which the two are in one part of the bracket."""
    bracket = told_draw(sides)
    for number in (1, 2, 3):
        parts = [bracket[at:at + 2 ** number] for at in range(0, len(bracket), 2 ** number)]
        if any(one in part and other in part for part in parts):
            return number


def told_play(sides, winners):
    """The rounds, game by game; None if one did not win its game, or if there are too many."""
    rounds, winners = [told_draw(sides)], list(winners)
    while len(rounds[-1]) > 1:
        following = []
        for at in range(0, len(rounds[-1]), 2):
            if winners:
                if not any(winners[0] == side for side in rounds[-1][at:at + 2]):
                    return None
                following.append(winners.pop(0))
        if len(following) < len(rounds[-1]) // 2:
            break
        rounds.append(following)
    if winners:
        return None
    return tuple(tuple(tuple(part[at:at + 2]) for at in range(0, len(part), 2)) for part in rounds)


class DrawTest(unittest.TestCase):
    def test_told_by_positions(self):
        for sides in (EIGHT, EIGHT[::-1], tuple(sorted(EIGHT))):
            self.assertEqual(sides[:2], draw(sides[:2]))
            self.assertEqual(tuple(sides[at] for at in (0, 3, 1, 2)), draw(sides[:4]))
            self.assertEqual(tuple(sides[at] for at in (0, 7, 3, 4, 1, 6, 2, 5)), draw(sides))

    def test_by_the_words_of_the_document(self):
        for many in (2, 4, 8):
            for seed in range(20):
                sides = random.Random(seed).sample(TEN, many)
                self.assertEqual(tuple(told_draw(sides)), draw(sides))
                self.assertEqual(draw(tuple(sides)), draw(sides))
                self.assertIs(tuple, draw(sides).__class__)

    def test_sides_are_not_changed(self):
        sides = list(EIGHT)
        draw(sides)
        self.assertEqual(list(EIGHT), sides)

    def test_what_are_no_sides(self):
        for sides in NO_SIDES:
            expect(self, BadValue, "at", 0, draw, sides)


class RoundsToMeetTest(unittest.TestCase):
    def test_each_two_of_each_count(self):
        for many in (2, 4, 8):
            for sides in (EIGHT[:many], list(EIGHT[::-1][:many])):
                for one, other in itertools.permutations(sides, 2):
                    self.assertEqual(told_rounds_to_meet(sides, one, other), rounds_to_meet(sides, one, other))

    def test_examples(self):
        self.assertEqual(1, rounds_to_meet(PAIR, "elm", "ash"))
        self.assertEqual([2, 2, 1], [rounds_to_meet(FOUR, "ash", other) for other in FOUR[1:]])
        self.assertEqual([3, 3, 2, 2, 3, 3, 1], [rounds_to_meet(EIGHT, "ash", other) for other in EIGHT[1:]])

    def test_the_first_two_meet_in_the_last_round(self):
        for last, many in enumerate((2, 4, 8), 1):
            self.assertEqual(last, rounds_to_meet(TEN[:many], TEN[0], TEN[1]))
            self.assertEqual(last, rounds_to_meet(TEN[:many], TEN[1], TEN[0]))

    def test_errors_in_their_turn(self):
        for sides in NO_SIDES:
            expect(self, BadValue, "at", 0, rounds_to_meet, sides, "ash", "elm")
            expect(self, BadValue, "at", 0, rounds_to_meet, sides, "no", None)
        for value in NO_NAMES:
            expect(self, BadSide, "name", value, rounds_to_meet, EIGHT, value, "elm")
            expect(self, BadSide, "name", value, rounds_to_meet, EIGHT, value, "no")
            expect(self, BadSide, "name", value, rounds_to_meet, EIGHT, value, value)
            expect(self, BadSide, "name", value, rounds_to_meet, EIGHT, "ash", value)
        for side in EIGHT:
            expect(self, BadValue, "at", 2, rounds_to_meet, EIGHT, side, side)
        expect(self, BadSide, "name", "fig", rounds_to_meet, FOUR, "fig", "fig")


class PlayTest(unittest.TestCase):
    FIRST = (("ash", "fig"), ("fir", "yew"), ("elm", "bay"), ("oak", "box"))

    def test_two_sides(self):
        self.assertEqual(((("ash", "elm"),),), play(PAIR, ()))
        self.assertEqual(((("ash", "elm"),), (("elm",),)), play(PAIR, ("elm",)))
        self.assertEqual(((("elm", "ash"),), (("elm",),)), play(["elm", "ash"], ["elm"]))

    def test_each_number_of_winners(self):
        winners = ("fig", "fir", "elm", "oak", "fir", "elm", "elm")
        second, third = (("fig", "fir"), ("elm", "oak")), (("fir", "elm"),)
        due = [(self.FIRST,)] * 4 + [(self.FIRST, second)] * 2 + [(self.FIRST, second, third)]
        due.append((self.FIRST, second, third, (("elm",),)))
        for many in range(8):
            self.assertEqual(due[many], play(EIGHT, winners[:many]))
            self.assertEqual(due[many], play(list(EIGHT), list(winners[:many])))

    def test_each_way_to_play_four(self):
        for winners in itertools.product(FOUR, repeat=3):
            for many in range(4):
                self.check(FOUR, winners[:many])

    def check(self, sides, winners):
        due = told_play(sides, winners)
        if due is None:
            expect(self, BadValue, "at", 1, play, sides, winners)
        else:
            self.assertEqual(due, play(sides, winners))

    def test_some_ways_to_play(self):
        right = 0
        for seed in range(600):
            dice = random.Random(seed)
            sides = dice.sample(EIGHT, dice.choice((2, 4, 8)))
            playing, winners = told_draw(sides), []
            while len(playing) > 1:
                playing = [dice.choice(playing[at:at + 2]) for at in range(0, len(playing), 2)]
                winners += playing
            winners = winners[:dice.randint(0, len(winners))]
            if winners and dice.random() < 0.3:
                winners[dice.randrange(len(winners))] = dice.choice(sides)
            if dice.random() < 0.1:
                winners += dice.choices(sides, k=dice.randint(1, 3))
            self.check(sides, winners)
            right += told_play(sides, winners) is not None
        self.assertTrue(150 < right < 550, right)

    def test_a_winner_of_another_game(self):
        for winners in (("elm",), ("fir",), ("ash", "ash"), ("ash", "fir", "fir"), ("ash", "fir", "elm", "bay")):
            expect(self, BadValue, "at", 1, play, EIGHT, winners)
            expect(self, BadValue, "at", 1, play, EIGHT, list(winners))

    def test_one_that_lost_already(self):
        told = ("fig", "fir", "elm", "oak")
        for behind in (("ash",), ("fir", "bay"), ("fir", "oak", "elm"), ("fir", "oak", "fig")):
            expect(self, BadValue, "at", 1, play, EIGHT, told + behind)

    def test_one_too_many(self):
        for side in PAIR + ("no", None, ()):
            expect(self, BadValue, "at", 1, play, PAIR, ("elm", side))
        told = ("fig", "fir", "elm", "oak", "fir", "elm", "elm")
        for side in EIGHT:
            expect(self, BadValue, "at", 1, play, EIGHT, told + (side,))
        expect(self, BadValue, "at", 1, play, EIGHT, told * 2)

    def test_what_is_no_name(self):
        for value in NO_NAMES:
            expect(self, BadValue, "at", 1, play, EIGHT, (value,))
            expect(self, BadValue, "at", 1, play, EIGHT, ["ash", "fir", value])
            expect(self, BadValue, "at", 1, play, PAIR, [value])
        expect(self, BadValue, "at", 1, play, EIGHT, (("ash", "fig"),))
        expect(self, BadValue, "at", 1, play, EIGHT, self.FIRST)

    def test_what_is_no_list_or_tuple(self):
        for value in (None, True, False, 0, 1, -1, 10 ** 30, "", "ash", "elm", "a" * 200000):
            expect(self, BadValue, "at", 1, play, EIGHT, value)
            expect(self, BadValue, "at", 1, play, PAIR, value)
        expect(self, BadValue, "at", 1, play, ("a", "b"), "a")

    def test_what_are_no_sides(self):
        for sides in NO_SIDES:
            for winners in ((), ("ash",), None, "ash"):
                expect(self, BadValue, "at", 0, play, sides, winners)

    def test_what_is_handed_in_is_not_changed(self):
        sides, winners = list(EIGHT), ["fig", "fir", "elm", "oak", "fir"]
        found = play(sides, winners)
        self.assertEqual((list(EIGHT), ["fig", "fir", "elm", "oak", "fir"]), (sides, winners))
        sides.clear()
        winners.clear()
        self.assertEqual(play(EIGHT, ("fig", "fir", "elm", "oak", "fir")), found)

    def test_tuples_within(self):
        for pairs in play(list(FOUR), ["ash", "elm", "elm"]):
            self.assertIs(tuple, pairs.__class__)
            self.assertTrue(all(pair.__class__ is tuple for pair in pairs))
        self.assertIsNone(caught(play, list(FOUR), []))


if __name__ == "__main__":
    unittest.main()
