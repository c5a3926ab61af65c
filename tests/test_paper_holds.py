"""Point [18]: the checking of trees, line by line."""

import itertools
import random
import re
import sys
import unittest

from stillmay.checking import paper_holds
from stillmay.errors import BadPaper, BadSide, BadValue
from stillmay.papers import always_paper, never_paper
from stillmay.ways import may, sure
from tests.helper import (EIGHT, NO_STRINGS, TRIO, WITHOUT_DRAWS, as_text, caught, deep, drawn_league,
                          expect, made, nested_calls, outcomes, snapshot, spoilt_papers, told_bound, told_end, told_left,
                          told_lines, told_tree, with_left, with_state)

CLAIMS = ("never", "always")
# oak may win and draw level with ash, but is behind it by the lots.
EXAMPLE = [("ash", "elm", "home"), ("elm", "oak", "left"), ("oak", "ash", "draw"), ("ash", "elm", "off")]
RIGHT = ["split 1", "bound", "bound", "end"]


class Wrong(Exception):
    """The number of the first wrong line."""


def told_wrong(league, side, place, claim, paper):
    """The number of the first wrong line by the words of the document, or None."""
    lines = told_lines(paper)

    def read(games, at):
        if at == len(lines):
            raise Wrong(at)
        form = re.fullmatch("(bound|end|split (0|[1-9][0-9]*))\n", lines[at])
        if form is None:
            raise Wrong(at)
        if form[2] is None:
            follows = told_bound if form[1] == "bound" else told_end
            if not follows(league, games, side, place, claim):
                raise Wrong(at)
            return at + 1
        numbers = {str(number): number for number in told_left(games)}
        if form[2] not in numbers:
            raise Wrong(at)
        at += 1
        for outcome in outcomes(league):
            at = read(with_state(games, numbers[form[2]], outcome), at)
        return at

    try:
        end = read(league.games(), 0)
    except Wrong as wrong:
        return wrong.args[0]
    return None if end == len(lines) else end


def drawn_tree(league, games, side, place, claim, dice):
    """Some right tree for a claim that is so."""
    follows = []
    if told_bound(league, games, side, place, claim):
        follows += ["bound"]
    if told_end(league, games, side, place, claim):
        follows += ["end"]
    if told_left(games):
        follows += ["split"]
    line = dice.choice(follows)
    if line != "split":
        return [line]
    number = dice.choice(told_left(games))
    lines = [f"split {number}"]
    for outcome in outcomes(league):
        lines += drawn_tree(league, with_state(games, number, outcome), side, place, claim, dice)
    return lines


class PaperCase(unittest.TestCase):
    def refused(self, at, league, side, place, claim, paper):
        expect(self, BadPaper, "at", at, paper_holds, league, side, place, claim, paper)

    def taken(self, league, side, place, claim, paper):
        self.assertIs(True, paper_holds(league, side, place, claim, paper))


class RightPapersTest(PaperCase):
    def test_the_example(self):
        league = made(games=EXAMPLE)
        before = snapshot(league)
        self.taken(league, "oak", 1, "never", as_text(RIGHT))
        self.taken(league, "ash", 1, "always", as_text(RIGHT))
        self.taken(league, "elm", 1, "never", "bound\n")
        self.taken(league, "elm", 3, "always", "bound\n")
        self.assertEqual(before, snapshot(league))

    def test_where_two_are_right_either_may_stand(self):
        league = made(games=EXAMPLE)
        for first, second in itertools.product(("bound", "end"), repeat=2):
            self.taken(league, "oak", 1, "never", as_text(["split 1", first, second, "end"]))
        self.taken(league, "elm", 1, "never", "split 1\nbound\nend\nend\n")
        self.taken(league, "elm", 3, "always", "split 1\nend\nbound\nend\n")
        league.enter(1, "home")
        self.taken(league, "oak", 1, "never", "bound\n")
        self.taken(league, "oak", 1, "never", "end\n")

    def test_a_split_at_any_game_that_is_left(self):
        league = made(scheme=WITHOUT_DRAWS, rules=("points",), games=[
            ("oak", "fir", "home"), ("elm", "oak", "left"), ("ash", "elm", "off"), ("oak", "ash", "left")],
            sides=TRIO + ("fir",))
        self.taken(league, "fir", 2, "never", "split 1\nbound\nsplit 3\nend\nbound\n")
        self.taken(league, "fir", 2, "never", "split 3\nsplit 1\nbound\nend\nbound\n")
        self.taken(league, "fir", 2, "never", "split 3\nsplit 1\nend\nend\nsplit 1\nbound\nend\n")
        self.taken(league, "fir", 2, "never", "split 1\nsplit 3\nbound\nend\nsplit 3\nend\nbound\n")

    def test_each_paper_for_its_claim_alone(self):
        for seed in range(300, 340):
            league = drawn_league(seed, 3)
            for side, place in itertools.product(league.sides(), range(1, len(league.sides()) + 1)):
                papers = {"never": never_paper, "always": always_paper}
                so = {"never": not may(league, side, place), "always": sure(league, side, place)}
                for claim in CLAIMS:
                    if so[claim]:
                        text = papers[claim](league, side, place)
                        self.taken(league, side, place, claim, text)
                        other = CLAIMS[1 - CLAIMS.index(claim)]
                        self.refused(told_wrong(league, side, place, other, text), league, side, place, other, text)

    def test_drawn_trees(self):
        dice = random.Random(18)
        for seed in range(340, 420):
            league = drawn_league(seed, 3)
            for side, place, claim in itertools.product(league.sides(), range(1, len(league.sides()) + 1), CLAIMS):
                so = not may(league, side, place) if claim == "never" else sure(league, side, place)
                if so:
                    lines = drawn_tree(league, league.games(), side, place, claim, dice)
                    self.taken(league, side, place, claim, as_text(lines))

    def test_just_one_of_may_and_a_right_paper_for_never(self):
        dice = random.Random(19)
        for seed in range(420, 450):
            league = drawn_league(seed, 2)
            texts = ["bound\n", "end\n"]
            for side, place in itertools.product(league.sides(), range(1, len(league.sides()) + 1)):
                try:
                    texts.append(never_paper(league, side, place))
                except Exception:
                    left = list(league.left())
                    dice.shuffle(left)
                    texts.append(self.full_tree(league, left))
            for side, place in itertools.product(league.sides(), range(1, len(league.sides()) + 1)):
                taken = [text for text in texts if caught(paper_holds, league, side, place, "never", text) is None]
                self.assertEqual(not may(league, side, place), bool(taken))

    def full_tree(self, league, left):
        if not left:
            return "end\n"
        return f"split {left[0]}\n" + self.full_tree(league, left[1:]) * len(outcomes(league))

    def test_withdrawn_sides(self):
        league = made(EIGHT[:4], games=[("ash", "elm", "home"), ("elm", "oak", "left"), ("fir", "oak", "home"),
                                        ("oak", "ash", "left")])
        league.withdraw("ash")
        self.taken(league, "ash", 1, "never", "bound\n")
        self.taken(league, "fir", 3, "always", "bound\n")
        self.refused(0, league, "ash", 1, "never", "split 3\nbound\nbound\nbound\n")
        self.refused(0, league, "ash", 1, "never", "split 0\nbound\nbound\nbound\n")

    def test_leagues_with_many_games_left(self):
        league = with_left(56)
        for number in range(7):
            league.enter(number, "home")
        # ash has 21; the others could get more.
        self.refused(0, league, "elm", 1, "never", "bound\n")
        self.refused(0, league, "elm", 1, "never", "end\n")
        crowded = made(EIGHT, games=[("ash", "elm", "left")] * 79 + [("fir", "oak", "left")])
        self.taken(crowded, "fig", 8, "always", "bound\n")
        self.taken(crowded, "fig", 8, "always", "split 79\nsplit 3\nbound\nbound\nbound\nbound\nbound\n")
        self.refused(0, crowded, "fig", 1, "never", "bound\n")
        # Who plays no game stays without points; ash and elm have some for sure, fir or oak gets some.
        for number in range(10):
            crowded.enter(number, "draw")
        self.taken(crowded, "fig", 2, "never", "bound\n")
        self.taken(crowded, "ash", 4, "always", "bound\n")
        self.refused(0, crowded, "fig", 3, "never", "bound\n")
        self.taken(crowded, "fig", 3, "never", "split 79\nbound\nbound\nbound\n")
        self.refused(1, crowded, "fig", 4, "never", "split 79\nbound\nbound\nbound\n")
        self.refused(1, crowded, "fig", 3, "never", "split 79\nend\nbound\nbound\n")

    def test_eighty_splits_and_ten_thousand_lines(self):
        crowded = made(EIGHT, games=[("ash", "elm", "left")] * 80)
        # Each time ash wins, the next game is parted; what is behind the others follows anyhow.
        lines = [f"split {number}" for number in range(80)] + ["bound"] * 161
        self.deep(crowded, "fig", 8, "always", as_text(lines))
        self.refused(0, crowded, "fig", 7, "always", as_text(["bound"]))
        text = "split 79\n" + as_text(["split 0"]) * 2
        self.refused(2, crowded, "fig", 8, "always", text)
        # A tree of nearly ten thousand lines: that of eight games, each node with all its kids.
        league = made(EIGHT, games=[("ash", "elm", "left")] * 40)
        text = never_paper(made(EIGHT, games=[("ash", "elm", "left")] * 8), "fig", 3)
        self.assertEqual(9841, len(told_lines(text)))
        self.refused(told_lines(text).index("end\n"), league, "fig", 3, "never", text)
        self.deep(league, "fig", 8, "always", text.replace("end", "bound"))

    def deep(self, league, side, place, claim, text):
        before = sys.getrecursionlimit()
        sys.setrecursionlimit(nested_calls() + 100)
        try:
            self.taken(league, side, place, claim, text)
        finally:
            sys.setrecursionlimit(before)


class SpoiltPapersTest(PaperCase):
    def spoilt(self, at, lines):
        league = made(games=EXAMPLE)
        text = lines if isinstance(lines, str) else as_text(lines)
        self.refused(at, league, "oak", 1, "never", text)
        self.assertEqual(at, told_wrong(league, "oak", 1, "never", text))

    def test_a_line_left_out_or_twice(self):
        self.spoilt(0, RIGHT[1:])
        self.spoilt(3, RIGHT[:1] + RIGHT[2:])
        self.spoilt(3, RIGHT[:3])
        self.spoilt(1, RIGHT[:1] + RIGHT)
        self.spoilt(3, RIGHT[:2] + RIGHT[1:])
        self.spoilt(4, RIGHT + RIGHT[3:])

    def test_lines_of_another_form(self):
        for line in ("split  1", "split 1 ", " split 1", "split1", "split\t1", "split 01", "split 00", "split +1",
                     "split -1", "split 1.", "split 1\r", "split 1 1", "split 1 2", "split", "split ", "Split 1",
                     "SPLIT 1", "split one", "splat 1", "", " ", "split \u0661", "split \u00b9", "split \uff11",
                     "split 1\u2028", "split\u00a01", "split 1\x0b", "split 1\x00", "split 1_0", "split 0x1",
                     "bound ", " bound", "Bound", "bounds", "boun", "bound 1", "end ", "\tend", "ends", "END",
                     "never", "always", "split 1bound", "1", "split " + "1" * 5000, "split 1e0"):
            self.spoilt(0, [line])
            self.spoilt(0, [line] + RIGHT)
            self.spoilt(0, [line] + RIGHT[1:])
            if "1" not in line:
                self.spoilt(1, [RIGHT[0], line] + RIGHT[2:])
                self.spoilt(4, RIGHT + [line])
        for line in ("bound ", "end\r", "Bound", "", "end 1", "split 01"):
            self.spoilt(2, RIGHT[:2] + [line] + RIGHT[3:])
            self.spoilt(3, RIGHT[:3] + [line])
            self.spoilt(4, RIGHT + [line])

    def test_a_bound_that_does_not_follow(self):
        self.spoilt(0, ["bound"])
        self.spoilt(3, RIGHT[:3] + ["bound"])

    def test_an_end_that_is_wrong(self):
        self.spoilt(0, ["end"])
        league = made(games=EXAMPLE)
        # A game is left, though the claim is so.
        self.refused(0, league, "elm", 1, "never", "end\n")
        self.refused(0, league, "elm", 3, "always", "end\n")
        # No game is left, and the claim is not so: oak is third if elm wins, otherwise second.
        self.refused(2, league, "oak", 2, "never", "split 1\nend\nend\nend\n")
        self.refused(1, league, "oak", 2, "always", "split 1\nend\nend\nend\n")
        self.refused(2, league, "elm", 2, "always", "split 1\nend\nend\nend\n")
        league.enter(1, "away")
        self.taken(league, "oak", 1, "never", "end\n")
        self.refused(0, league, "oak", 2, "never", "end\n")
        self.refused(0, league, "oak", 1, "always", "end\n")
        self.taken(league, "oak", 2, "always", "end\n")

    def test_a_split_at_a_game_that_is_not_left(self):
        for number in ("0", "2", "3", "4", "80", "1000000000000000000000000000000"):
            self.spoilt(0, [f"split {number}"] + RIGHT[1:])
            self.spoilt(1, RIGHT[:1] + [f"split {number}"] + RIGHT[1:])
        # Given already.
        self.spoilt(1, RIGHT[:1] + RIGHT)
        self.spoilt(3, RIGHT[:3] + RIGHT)
        league = with_left(3, sides=TRIO)
        self.refused(2, league, "ash", 3, "always", "split 0\nsplit 2\nsplit 0\n")
        self.refused(2, league, "ash", 3, "always", "split 0\nsplit 2\nsplit 2\n")
        # On another way it may be given once more.
        self.taken(league, "ash", 3, "always", as_text(["split 0"] + ["split 2", "bound", "bound", "bound"] * 3))

    def test_lines_behind_the_tree(self):
        for line in ("bound", "end", "split 1", "", "other"):
            self.spoilt(4, RIGHT + [line])
            self.spoilt(4, RIGHT + [line, line])
            self.spoilt(4, as_text(RIGHT) + line + "x")

    def test_lines_that_lack(self):
        for many in range(4):
            self.spoilt(many, RIGHT[:many])
        self.refused(0, made(), "ash", 3, "always", "")

    def test_a_last_line_without_a_line_feed(self):
        for many in range(1, 5):
            self.spoilt(many - 1, "\n".join(RIGHT[:many]))
        self.spoilt(0, "x")
        self.refused(0, made(), "ash", 3, "always", "bound")
        self.refused(0, made(), "ash", 3, "always", "bound\r")
        self.refused(1, made(), "ash", 3, "always", "bound\n\n")
        self.refused(0, made(), "ash", 3, "always", "\nbound\n")

    def test_the_first_wrong_line_is_told(self):
        self.spoilt(1, [RIGHT[0], "end 1", "nothing", "end"])
        self.spoilt(0, ["end", "x"])
        self.spoilt(3, RIGHT[:3] + ["bound", "bound"])

    def test_what_is_no_string(self):
        league = made(games=EXAMPLE)
        for value in NO_STRINGS + (b"bound\n", ("bound\n",), ["bound\n"], deep(40)):
            self.refused(0, league, "elm", 1, "never", value)

    def test_long_papers(self):
        league = made(games=EXAMPLE)
        self.refused(1, league, "elm", 1, "never", "bound\n" * 10000)
        self.refused(0, league, "elm", 1, "never", "\n" * 200000)
        self.refused(0, league, "elm", 1, "never", "split " + "1" * 199994)
        self.refused(0, league, "elm", 1, "never", "split " + "1" * 199993 + "\n")
        self.refused(0, league, "elm", 1, "never", "bound " * 33333 + "\n")

    def test_against_a_slow_reading(self):
        dice = random.Random(20)
        words = ["bound", "end"] + ["split %d" % number for number in range(4)]
        outcome = {True: 0, False: 0}
        for seed in range(500, 530):
            league = drawn_league(seed, 2)
            for side, claim in itertools.product(league.sides()[:3], CLAIMS):
                place = dice.randint(1, len(league.sides()))
                lines = told_tree(league, league.games(), side, place, claim) or ["bound", "end"]
                if len(lines) > 10:
                    continue
                for paper in spoilt_papers(lines, words, dice):
                    wrong = told_wrong(league, side, place, claim, paper)
                    outcome[wrong is None] += 1
                    if wrong is None:
                        self.taken(league, side, place, claim, paper)
                    else:
                        self.refused(wrong, league, side, place, claim, paper)
        self.assertGreater(outcome[True], 100)
        self.assertGreater(outcome[False], 1000)


class ErrorsTest(PaperCase):
    def test_each_error_in_its_turn(self):
        for league in (made(games=EXAMPLE), with_left(40, sides=TRIO)):
            before = snapshot(league)
            for side, place, claim, paper in itertools.product(
                    ("elm", "yew", None, ["elm"]), (1, 0, 4, True, "1"), ("never", "Never", None), ("x\n", None, "")):
                if side != "elm":
                    expect(self, BadSide, "name", side, paper_holds, league, side, place, claim, paper)
                elif place != 1 or place is True:
                    expect(self, BadValue, "at", 2, paper_holds, league, side, place, claim, paper)
                elif claim != "never":
                    expect(self, BadValue, "at", 3, paper_holds, league, side, place, claim, paper)
                else:
                    expect(self, BadPaper, "at", 0, paper_holds, league, side, place, claim, paper)
            self.assertEqual(before, snapshot(league))

    def test_what_is_no_side(self):
        for value in NO_STRINGS + ("", "yew", "Ash", deep(40)):
            expect(self, BadSide, "name", value, paper_holds, made(), value, 1, "never", "bound\n")

    def test_what_is_no_place(self):
        for value in (0, 4, -1, 10 ** 30, -10 ** 30, True, False, None, "", "1", (), [], (1,), [1], deep(40)):
            expect(self, BadValue, "at", 2, paper_holds, made(), "ash", value, "always", "bound\n")

    def test_another_claim(self):
        for value in NO_STRINGS + ("", "Never", "never ", "sure", "may", "always\n", ("never",), ["always"], deep(40)):
            expect(self, BadValue, "at", 3, paper_holds, made(), "ash", 3, value, "bound\n")

    def test_no_bound_on_the_games_that_are_left(self):
        for many in (8, 9, 40, 56):
            self.taken(with_left(many), "ash", 8, "always", "bound\n")

    def test_arguments_by_name(self):
        self.assertIs(True, paper_holds(paper="bound\n", claim="always", place=3, side="ash", league=made()))


if __name__ == "__main__":
    unittest.main()
