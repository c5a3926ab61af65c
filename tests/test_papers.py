"""Points [15] to [17]: bounds, trees, and the papers for claims about a league."""

import itertools
import unittest

from stillmay.checking import paper_holds
from stillmay.errors import BadSide, BadValue, NothingThere, TooMany
from stillmay.papers import always_paper, never_paper
from stillmay.ways import may, sure
from tests.helper import (EIGHT, NO_STRINGS, TRIO, WITH_DRAWS, WITHOUT_DRAWS, as_text, caught, deep, drawn_league,
                          expect, made, snapshot, told_lines, told_tree, with_left)

PAPERS = (("never", never_paper), ("always", always_paper))


class BoundTest(unittest.TestCase):
    def test_points_that_are_more_by_one(self):
        # Without a game left, elm has 3 points and ash 4.
        league = made(games=[("ash", "oak", "home"), ("ash", "oak", "draw"), ("elm", "oak", "home")])
        self.assertEqual("bound\n", never_paper(league, "elm", 1))
        self.assertEqual("bound\n", always_paper(league, "ash", 1))
        self.assertEqual("bound\n", always_paper(league, "elm", 2))
        self.assertEqual("bound\n", never_paper(league, "oak", 2))

    def test_equal_points_are_no_bound(self):
        league = made(games=[("ash", "oak", "home"), ("elm", "oak", "home")])
        self.assertEqual("end\n", never_paper(league, "elm", 1))
        self.assertEqual("end\n", always_paper(league, "ash", 1))
        self.assertEqual("bound\n", always_paper(league, "elm", 2))

    def test_games_left_count_for_the_side_and_against_the_others(self):
        # ash has 6 for sure, elm can get 3.
        league = made(EIGHT[:4], games=[("ash", "fir", "home"), ("fir", "ash", "away"), ("elm", "oak", "left"),
                                        ("ash", "fir", "left")])
        self.assertEqual("bound\n", never_paper(league, "elm", 1))
        self.assertEqual("bound\n", always_paper(league, "ash", 1))
        # One game more, and elm and oak could get 6: no bound, though the lots put them lower anyhow.
        league.add_game("oak", "elm")
        self.assertEqual("split 2\n", told_lines(never_paper(league, "elm", 1))[0])
        self.assertEqual("split 2\n", told_lines(always_paper(league, "ash", 1))[0])

    def test_points_for_a_loss_are_counted(self):
        # ash has 3 and gets 2 more at least; oak gets 3 at most.
        league = made(scheme=(3, 2, 2), games=[("ash", "elm", "home"), ("ash", "oak", "left")])
        self.assertEqual("bound\n", never_paper(league, "oak", 1))
        self.assertEqual("bound\n", always_paper(league, "ash", 1))
        # Without the points for a loss, oak could draw level.
        league = made(scheme=(3, 2, 0), games=[("ash", "elm", "home"), ("ash", "oak", "left")])
        self.assertEqual("split 1\nbound\nbound\nend\n", never_paper(league, "oak", 1))

    def test_a_game_between_the_two_counts_for_both(self):
        # ash has 5, elm 2: the one game between them makes it 5 to 5.
        games = [("ash", "oak", "home"), ("ash", "oak", "draw"), ("ash", "oak", "draw"), ("elm", "oak", "draw"),
                 ("oak", "elm", "draw"), ("elm", "ash", "left")]
        league = made(games=games)
        self.assertEqual("split 5\nend\nbound\nbound\n", never_paper(league, "elm", 1))
        self.assertEqual("split 5\nend\nbound\nbound\n", always_paper(league, "ash", 1))
        league.enter(3, "away")
        self.assertEqual("bound\n", never_paper(league, "elm", 1))

    def test_so_many_sides_are_due(self):
        league = made(sides=EIGHT[:4], games=[("ash", "fir", "home"), ("elm", "fir", "home"), ("oak", "fir", "draw")])
        for side, places in (("ash", 4), ("elm", 4), ("oak", 4), ("fir", 4)):
            for place in range(1, places + 1):
                for claim, paper in PAPERS:
                    above = {"ash": 0, "elm": 0, "oak": 2, "fir": 2}[side]
                    below = {"ash": 2, "elm": 2, "oak": 0, "fir": 0}[side]
                    due = above >= place if claim == "never" else below >= 4 - place
                    found = caught(paper, league, side, place)
                    if found is None:
                        self.assertEqual("bound\n" if due else "end\n", paper(league, side, place))
                    else:
                        self.assertFalse(due)
                        self.assertIs(NothingThere, found.__class__)


class TreeTest(unittest.TestCase):
    def test_line_by_line(self):
        league = made(games=[("ash", "elm", "home"), ("elm", "oak", "left"), ("oak", "ash", "draw")])
        # ash 4, oak 1, elm 0; elm reaches three points at most.
        self.assertEqual("bound\n", never_paper(league, "elm", 1))
        self.assertEqual("bound\n", always_paper(league, "elm", 3))
        # oak may win and draw level with ash on points, with as many games won, but behind by the lots.
        self.assertEqual("split 1\nbound\nbound\nend\n", never_paper(league, "oak", 1))
        self.assertEqual("split 1\nbound\nbound\nend\n", always_paper(league, "ash", 1))
        expect(self, NothingThere, "word", "paper", never_paper, league, "elm", 2)
        expect(self, NothingThere, "word", "paper", always_paper, league, "elm", 2)

    def test_the_first_kid_with_all_below_it_comes_first(self):
        league = made(EIGHT[:4], scheme=WITHOUT_DRAWS, rules=("points",), games=[
            ("oak", "fir", "home"), ("elm", "oak", "left"), ("ash", "elm", "off"), ("oak", "ash", "left")])
        # oak has 1, the others none; who wins is ahead of fir, and so are those whom the lots put there.
        self.assertEqual("bound\n", never_paper(league, "fir", 1))
        self.assertEqual("split 1\nbound\nsplit 3\nend\nbound\n", never_paper(league, "fir", 2))
        self.assertEqual("split 1\nsplit 3\nend\nbound\nsplit 3\nend\nend\n", never_paper(league, "fir", 3))
        self.assertEqual("split 1\nsplit 3\nend\nbound\nsplit 3\nend\nbound\n", always_paper(league, "ash", 3))
        # All three with 1: then oak is behind the two by the lots.
        expect(self, NothingThere, "word", "paper", always_paper, league, "oak", 2)
        self.assertEqual("bound\n", always_paper(league, "oak", 3))

    def test_no_game_left(self):
        for games in ((), [("ash", "elm", "off")], [("ash", "elm", "draw")]):
            league = made(games=games)
            for (claim, paper), side, place in itertools.product(PAPERS, TRIO, (1, 2, 3)):
                lines = told_tree(league, league.games(), side, place, claim)
                if lines is None:
                    expect(self, NothingThere, "word", "paper", paper, league, side, place)
                else:
                    self.assertIn(lines, (["end"], ["bound"]))
                    self.assertEqual(as_text(lines), paper(league, side, place))

    def test_the_last_place(self):
        for many in (0, 1, 4):
            for sides in (EIGHT[:2], EIGHT):
                league = made(sides, games=[("ash", "elm", "left")] * many)
                for side in sides:
                    expect(self, NothingThere, "word", "paper", never_paper, league, side, len(sides))
                    self.assertEqual("bound\n", always_paper(league, side, len(sides)))

    def test_withdrawn_sides(self):
        league = made(sides=EIGHT[:4], rules=("points",), games=[("ash", "elm", "home"), ("elm", "oak", "left"),
                                                                 ("oak", "fir", "home"), ("fir", "elm", "left")])
        league.withdraw("ash")
        # fir may draw level with elm and oak, and is behind them by the lots.
        self.assertEqual("split 1\nsplit 3\nend\nbound\nbound\nbound\nbound\n", never_paper(league, "fir", 1))
        self.assertEqual("bound\n", never_paper(league, "ash", 1))
        self.assertEqual("bound\n", always_paper(league, "oak", 3))
        for claim, paper in PAPERS:
            for side, place in itertools.product(league.sides(), range(1, 5)):
                self.check(league, side, place, claim, paper)

    def check(self, league, side, place, claim, paper):
        lines = told_tree(league, league.games(), side, place, claim)
        told = (league.games(), league.scheme(), league.rules(), side, place, claim)
        if lines is None:
            expect(self, NothingThere, "word", "paper", paper, league, side, place)
        else:
            self.assertEqual(as_text(lines), paper(league, side, place), told)
            self.assertIs(True, paper_holds(league, side, place, claim, as_text(lines)), told)

    def test_against_the_words_of_the_document(self):
        sizes = set()
        for seed in range(150):
            league = drawn_league(seed, 3)
            sizes.add(len(league.sides()))
            before = snapshot(league)
            for side, place in itertools.product(league.sides(), range(1, len(league.sides()) + 1)):
                for claim, paper in PAPERS:
                    self.check(league, side, place, claim, paper)
            self.assertEqual(before, snapshot(league))
        self.assertEqual(set(range(2, 9)), sizes)

    def test_a_paper_just_for_what_is_so(self):
        for seed in range(200, 280):
            league = drawn_league(seed, 5)
            for side, place in itertools.product(league.sides(), range(1, len(league.sides()) + 1)):
                never = caught(never_paper, league, side, place)
                always = caught(always_paper, league, side, place)
                self.assertEqual(may(league, side, place), never is not None)
                self.assertEqual(sure(league, side, place), always is None)
                if never is None:
                    self.assertIs(True, paper_holds(league, side, place, "never", never_paper(league, side, place)))
                if always is None:
                    self.assertIs(True, paper_holds(league, side, place, "always", always_paper(league, side, place)))

    def test_kids_for_the_outcomes_that_there_are(self):
        # If elm wins, the two are level, and the lots put ash ahead.
        for scheme, lines in ((WITH_DRAWS, ["split 0", "bound", "bound", "end"]),
                              ((1, 1, 0), ["split 0", "bound", "bound", "end"]),
                              (WITHOUT_DRAWS, ["split 0", "bound", "end"])):
            league = made(("ash", "elm"), scheme, ("points",),
                          games=[("ash", "elm", "left"), ("ash", "elm", "home")])
            self.assertEqual(as_text(lines), always_paper(league, "ash", 1))
            self.assertEqual(as_text(lines), never_paper(league, "elm", 1))


class ErrorsTest(unittest.TestCase):
    def test_eight_games_left_and_nine(self):
        for scheme in (WITH_DRAWS, WITHOUT_DRAWS):
            for claim, paper in PAPERS:
                league = with_left(8, scheme=scheme)
                self.assertEqual("bound\n", always_paper(league, "fig", 8))
                expect(self, NothingThere, "word", "paper", never_paper, league, "fig", 8)
                expect(self, TooMany, "word", "games", paper, with_left(9, scheme=scheme), "fig", 8)
                expect(self, TooMany, "word", "games", paper, with_left(40, scheme=scheme), "ash", 1)

    def test_a_whole_tree_of_eight_games(self):
        # No point parts the two who do not play at all; the lots do.
        league = made(EIGHT, games=[("ash", "elm", "left")] * 8)
        text = always_paper(league, "oak", 3)
        # Where ash or elm has no points, oak is ahead of one of them.
        self.assertEqual(as_text(told_tree(league, league.games(), "oak", 3, "always")), text)
        self.assertIs(True, paper_holds(league, "oak", 3, "always", text))
        text = never_paper(league, "fig", 3)
        self.assertEqual(9841, len(told_lines(text)))
        self.assertEqual(["split 0\n"] + ["split %d\n" % at for at in range(1, 8)] + ["end\n"] * 3 + ["split 7\n"],
                         told_lines(text)[:12])
        self.assertIs(True, paper_holds(league, "fig", 3, "never", text))

    def test_what_is_no_side(self):
        for league in (made(games=[("ash", "elm", "left")]), with_left(9, sides=TRIO + ("fir",))):
            for value in NO_STRINGS + ("", "yew", "Ash", deep(40)):
                for claim, paper in PAPERS:
                    for place in (1, 0, None):
                        expect(self, BadSide, "name", value, paper, league, value, place)

    def test_what_is_no_place(self):
        for many in (2, 9):
            league = with_left(many, sides=TRIO + ("fir",))
            for value in (0, 5, -1, 10 ** 30, -10 ** 30, True, False, None, "", "1", (), [], (1,), [1], deep(40)):
                for claim, paper in PAPERS:
                    expect(self, BadValue, "at", 2, paper, league, "elm", value)


if __name__ == "__main__":
    unittest.main()
