"""Points [32] and [33]: the desk, its lines, undo, and its log."""

import random
import re
import unittest

from stillmay import pairings, standings, ways
from stillmay.desk import Desk, replayed
from stillmay.errors import BadLine, BadValue, LeagueError
from stillmay.leagues import League
from tests.helper import (ALL_RULES, EIGHT, NO_STRINGS, PLAIN, TRIO, WITH_DRAWS, WITHOUT_DRAWS, caught, deep, expect,
                          outcomes)

FOUR = EIGHT[:4]
WORD, NUMBER = "[a-z]+", "(?:0|[1-9][0-9]{0,8})"
FORMS = {"game": (WORD, WORD), "enter": (NUMBER, WORD), "off": (NUMBER,), "reopen": (NUMBER,), "withdraw": (WORD,),
         "undo": (), "table": (), "left": (), "places": (WORD,), "sure": (WORD, NUMBER), "may": (WORD, NUMBER),
         "needs": (WORD, NUMBER), "deciders": (WORD, NUMBER), "round": ()}
# One right line of each kind.
LINES = ("game ash elm", "enter 0 home", "off 0", "reopen 0", "withdraw ash", "undo", "table", "left", "places ash",
         "sure ash 1", "may ash 1", "needs ash 1", "deciders ash 1", "round")
NO_LINES = (
    "", " ", "  ", "\n", "games", "play ash elm", "Undo", "UNDO", "Table", "log", "tell table", "standings", "0", "ash",
    # Words too few or too many.
    "game", "game ash", "game ash elm oak", "game ash elm 0", "enter", "enter 0", "enter home", "enter 0 home home",
    "off", "off 0 0", "reopen", "reopen 0 1", "withdraw", "withdraw ash elm", "undo 1", "undo undo", "table ash",
    "left 0", "places", "places ash 1", "sure", "sure ash", "sure 1", "sure ash 1 1", "may ash", "may", "needs ash",
    "needs ash 1 1", "deciders", "deciders ash", "deciders ash 1 home", "round 1", "round ash",
    # Words and numbers in each other's place.
    "game 0 elm", "game ash 1", "enter ash home", "enter home 0", "enter 0 1", "off ash", "reopen ash", "withdraw 0",
    "places 1", "sure 1 ash", "sure ash ash", "may ash elm", "needs 1 1", "deciders ash first",
    # Numbers of other forms.
    "off 00", "off 01", "off 007", "enter 00 home", "reopen 0000000000", "sure ash 01", "may ash 00", "needs ash 02",
    "deciders ash 03", "off -1", "off -0", "off +1", "off +0", "sure ash -1", "sure ash +1", "off 1234567890",
    "off 1000000000", "sure ash 1000000000", "enter 9999999999 home", "off 1.0", "off 1e1", "off 0x1", "off 1_0",
    "off 1_000", "off ", "off 0b1", "off \u0661", "off \u00b2", "off \uff11", "sure ash \u0967", "off 1\u0661",
    "off \u2460", "off " + "1" * 200000, "off " + "0" * 200000,
    # Words of other signs.
    "game Ash elm", "game ash Elm", "game ash elm1", "game ash el-m", "game ash el_m", "game \u00e4sh elm",
    "game ash \u0435lm", "enter 0 Home", "enter 0 HOME", "enter 0 home!", "withdraw ASH", "places a.b", "withdraw ash;",
    "game ash %", "game ash, elm", "ga\u043ce ash elm", "withdraw \u017fun", "withdraw \u00df",
    # Line feeds and other signs that are no text.
    "table\ntable", "game ash\nelm", "\nundo\n", "undo\r\n", "table\u2028", "off 0\x00")


def spoilt(line):
    """The line with blanks, line feeds and the like where they may not be."""
    yield from (" " + line, line + " ", line + "\n", "\n" + line, line + "\r", line + "\t", line.upper(), line + ".",
                line.capitalize(), line + "\x0b", line + "\x00", line + " undo", line + "\xa0", "\ufeff" + line)
    for blank in ("  ", "\t", " \n", "\xa0", "\u3000", "", "   ", "\n", "_"):
        if " " in line:
            yield line.replace(" ", blank)
            yield line.replace(" ", blank, 1)


class ToldDesk:
    """What a desk is to answer; the league is made anew for each line, of the acts that are not undone."""

    def __init__(self, *given):
        self.given, self.acts, self.lines = given, [], []

    def league(self):
        league = League(*self.given)
        for act in self.acts:
            self.do(league, *act)
        return league

    def do(self, league, word, *given):
        calls = {"game": league.add_game, "enter": league.enter, "off": league.call_off, "reopen": league.reopen,
                 "withdraw": league.withdraw}
        number = calls[word](*given)
        return "ok" if number is None else str(number)

    def tell(self, line):
        words = line.split(" ")
        form = FORMS.get(words[0])
        if form is None or re.fullmatch(" ".join((words[0],) + form), line) is None:
            raise BadLine(0)
        self.lines.append(line)
        given = [int(word) if word.isdigit() else word for word in words[1:]]
        try:
            return self.answer(words[0], *given)
        except LeagueError as error:
            return "no " + error.__class__.__name__

    def answer(self, word, *given):
        league = self.league()
        if word == "undo":
            return "ok" if self.acts and self.acts.pop() else "no NothingThere"
        if word in ("game", "enter", "off", "reopen", "withdraw"):
            answer = self.do(league, word, *given)
            self.acts.append((word,) + given)
            return answer
        if word == "table":
            return "; ".join("{} {} {} {} {}".format(*row) for row in standings.table(league))
        if word == "left":
            return " ".join(map(str, league.left()))
        if word == "places":
            return "{} {}".format(ways.best_place(league, *given), ways.worst_place(league, *given))
        if word in ("sure", "may"):
            return {True: "yes", False: "no"}[getattr(ways, word)(league, *given)]
        if word == "needs":
            return str(ways.needs(league, *given) if ways.needs(league, *given) is not None else "none")
        if word == "deciders":
            return "; ".join("{} {}".format(*pair) for pair in ways.deciders(league, *given))
        pairs, out = pairings.next_round(league)
        if pairs is None:
            return "none"
        return "; ".join(["{} {}".format(*pair) for pair in pairs] + [f"out {out}"] * (out is not None))


class DeskCase(unittest.TestCase):
    def setUp(self):
        self.desk = Desk(TRIO, WITH_DRAWS, PLAIN)

    def tell(self, *lines):
        return [self.desk.tell(line) for line in lines]

    def expect(self, *pairs):
        """Told the first ones of these pairs, the desk answers the second ones."""
        for line, answer in pairs:
            found = self.desk.tell(line)
            self.assertEqual((str, answer), (found.__class__, found), line)

    def expect_no_line(self, line):
        before = self.desk.log()
        expect(self, BadLine, "at", 0, self.desk.tell, line)
        self.assertEqual(before, self.desk.log())


class AnswersTest(DeskCase):
    def test_the_example(self):
        self.expect(("game ash elm", "0"), ("game elm oak", "1"), ("game oak ash", "2"), ("enter 0 home", "ok"),
                    ("enter 2 draw", "ok"), ("table", "1 ash 2 1 4; 2 oak 1 0 1; 3 elm 1 0 0"), ("left", "1"),
                    ("places elm", "2 3"), ("sure ash 1", "yes"), ("sure elm 2", "no"), ("may oak 1", "no"),
                    ("may elm 2", "yes"), ("needs elm 2", "3"), ("needs elm 1", "none"), ("deciders elm 2", "1 home"),
                    ("deciders ash 1", ""), ("round", "none"), ("off 1", "ok"), ("left", ""), ("reopen 1", "ok"),
                    ("reopen 0", "ok"), ("left", "0 1"), ("withdraw oak", "ok"), ("left", "0"), ("undo", "ok"),
                    ("left", "0 1"))

    def test_a_new_desk(self):
        self.expect(("table", "1 ash 0 0 0; 2 elm 0 0 0; 3 oak 0 0 0"), ("left", ""), ("places oak", "3 3"),
                    ("sure ash 1", "yes"), ("may oak 2", "no"), ("needs oak 3", "0"), ("needs elm 1", "none"),
                    ("deciders ash 1", ""), ("round", "ash elm; out oak"), ("undo", "no NothingThere"))

    def test_several_deciders_and_games_left(self):
        self.tell("game ash elm", "game oak elm", "game elm ash", "enter 1 home")
        self.expect(("left", "0 2"), ("deciders ash 1", "0 home; 2 away"), ("deciders oak 2", "0 draw; 2 draw"),
                    ("deciders elm 1", ""), ("places elm", "1 3"))

    def test_each_kind_of_round(self):
        self.desk = Desk(FOUR, WITH_DRAWS, PLAIN)
        self.expect(("round", "ash elm; oak fir"), ("game fir oak", "0"), ("round", "ash oak; elm fir"),
                    ("off 0", "ok"), ("round", "ash elm; oak fir"), ("withdraw fir", "ok"),
                    ("round", "ash elm; out oak"), ("game ash elm", "1"), ("round", "none"), ("enter 1 away", "ok"),
                    ("round", "none"), ("withdraw ash", "ok"), ("round", "elm oak"), ("withdraw elm", "ok"),
                    ("round", "out oak"), ("withdraw oak", "ok"), ("round", ""), ("left", ""), ("undo", "ok"),
                    ("round", "out oak"))

    def test_the_round_follows_the_order(self):
        self.desk = Desk(FOUR, WITH_DRAWS, PLAIN)
        self.tell("game fir ash", "enter 0 home")
        self.expect(("table", "1 fir 1 1 3; 2 ash 1 0 0; 3 elm 0 0 0; 4 oak 0 0 0"), ("round", "fir elm; ash oak"))

    def test_numbers_of_games_and_numbers_with_two_figures(self):
        for number in range(12):
            self.expect(("game ash elm", str(number)))
        self.expect(("enter 10 home", "ok"), ("off 11", "ok"), ("left", "0 1 2 3 4 5 6 7 8 9"))
        for number in range(2, 10):
            self.tell(f"enter {number} home")
        self.expect(("table", "1 ash 9 9 27; 2 elm 9 0 0; 3 oak 0 0 0"))

    def test_bad_sides(self):
        self.tell("withdraw oak")
        for side in ("fir", "a", "abcdefgh", "abcdefghi", "z" * 200000, "home", "undo"):
            self.expect((f"game {side} elm", "no BadSide"), (f"game ash {side}", "no BadSide"),
                        (f"withdraw {side}", "no BadSide"), (f"places {side}", "no BadSide"),
                        (f"sure {side} 1", "no BadSide"), (f"may {side} 1", "no BadSide"),
                        (f"needs {side} 0", "no BadSide"), (f"deciders {side} 9", "no BadSide"))
        self.expect(("game oak elm", "no BadSide"), ("game elm oak", "no BadSide"), ("withdraw oak", "no BadSide"),
                    ("places oak", "3 3"), ("left", ""))

    def test_bad_games(self):
        self.expect(("enter 0 home", "no BadGame"), ("off 0", "no BadGame"), ("reopen 0", "no BadGame"))
        self.tell("game ash elm", "game elm oak", "withdraw oak")
        for number in (1, 2, 80, 999999999):
            self.expect((f"enter {number} home", "no BadGame"), (f"enter {number} no", "no BadGame"),
                        (f"off {number}", "no BadGame"), (f"reopen {number}", "no BadGame"))
        self.expect(("left", "0"))

    def test_bad_values(self):
        self.tell("game ash elm")
        for outcome in ("left", "off", "h", "homes", "x" * 200000):
            self.expect((f"enter 0 {outcome}", "no BadValue"))
        self.expect(("game ash ash", "no BadValue"))
        for place in (0, 4, 10, 999999999):
            self.expect((f"sure ash {place}", "no BadValue"), (f"may ash {place}", "no BadValue"),
                        (f"needs ash {place}", "no BadValue"), (f"deciders ash {place}", "no BadValue"))
        self.expect(("left", "0"))
        self.desk = Desk(TRIO, WITHOUT_DRAWS, PLAIN)
        self.expect(("game ash elm", "0"), ("enter 0 draw", "no BadValue"), ("left", "0"), ("enter 0 away", "ok"))

    def test_too_many(self):
        for number in range(6):
            self.tell("game ash elm")
        self.expect(("deciders elm 3", ""), ("game ash elm", "6"), ("deciders elm 3", "no TooMany"),
                    ("deciders elm 4", "no BadValue"), ("game elm ash", "7"), ("places elm", "1 2"),
                    ("needs oak 3", "0"), ("game elm ash", "8"), ("places elm", "no TooMany"),
                    ("sure elm 3", "no TooMany"), ("may elm 3", "no TooMany"), ("needs elm 3", "no TooMany"),
                    ("sure elm 4", "no BadValue"), ("places fir", "no BadSide"), ("undo", "ok"), ("sure elm 3", "yes"))
        for number in range(8, 80):
            self.expect(("game elm oak", str(number)))
        self.expect(("game elm oak", "no TooMany"), ("game elm elm", "no BadValue"), ("game elm fir", "no BadSide"),
                    ("undo", "ok"), ("game elm oak", "79"), ("game elm oak", "no TooMany"))

    def test_it_is_no_league(self):
        self.assertNotIsInstance(self.desk, League)
        self.assertFalse(League(TRIO, WITH_DRAWS, PLAIN) == self.desk)

    def test_by_name_and_from_lists(self):
        sides, scheme, rules = list(TRIO), list(WITH_DRAWS), list(PLAIN)
        self.desk = Desk(rules=rules, scheme=scheme, sides=sides)
        self.assertEqual("0", self.desk.tell(line="game ash elm"))
        sides.clear()
        scheme[0] = 9
        rules.append("away")
        self.expect(("enter 0 home", "ok"), ("table", "1 ash 1 1 3; 2 elm 1 0 0; 3 oak 0 0 0"))
        desk = replayed(log=self.desk.log(), rules=list(PLAIN), scheme=list(WITH_DRAWS), sides=list(TRIO))
        self.assertEqual(self.desk.log(), desk.log())

    def test_wrong_arguments(self):
        for wrong in NO_STRINGS + ("", "ash", deep(40)):
            for log in ("", "undo", "no\n", None):
                expect(self, BadValue, "at", 0, replayed, wrong, wrong, wrong, log)
                expect(self, BadValue, "at", 1, replayed, TRIO, wrong, wrong, log)
                expect(self, BadValue, "at", 2, replayed, TRIO, WITH_DRAWS, wrong, log)
            expect(self, BadValue, "at", 0, Desk, wrong, wrong, wrong)
            expect(self, BadValue, "at", 1, Desk, TRIO, wrong, wrong)
            expect(self, BadValue, "at", 2, Desk, TRIO, WITH_DRAWS, wrong)


class UndoTest(DeskCase):
    def state(self):
        """All that the desk tells; the questions stand in its log, too, but are never undone."""
        return self.tell("table", "left", "round", "places ash", "deciders elm 1")

    def check_undone(self, *lines):
        """Behind these acts, undo leads back over one after the other."""
        states = []
        for line in lines:
            states.append(self.state())
            self.assertNotIn("no", self.desk.tell(line).split(" "))
        while states:
            self.expect(("undo", "ok"))
            self.assertEqual(states.pop(), self.state())

    def test_behind_each_act(self):
        self.tell("game ash elm", "game elm oak", "enter 1 away")
        for line in ("game oak ash", "enter 0 draw", "enter 1 home", "off 0", "off 1", "reopen 1", "withdraw elm"):
            self.check_undone(line)

    def test_several_in_a_row(self):
        self.tell("game ash elm", "game elm oak")
        self.check_undone("enter 0 home", "enter 0 away", "game oak ash", "enter 1 draw", "off 2", "reopen 1",
                          "reopen 2", "enter 2 home", "withdraw elm", "off 2", "game ash oak", "withdraw ash")

    def test_an_act_that_changed_nothing_counts(self):
        self.tell("game ash elm", "enter 0 home", "enter 0 home", "enter 0 home")
        self.expect(("undo", "ok"), ("left", ""), ("undo", "ok"), ("left", ""), ("undo", "ok"), ("left", "0"))
        self.tell("reopen 0", "off 0", "off 0")
        self.expect(("undo", "ok"), ("left", ""), ("undo", "ok"), ("left", "0"), ("undo", "ok"), ("left", "0"),
                    ("undo", "ok"), ("undo", "no NothingThere"))

    def test_a_withdrawal_of_a_side_with_ended_games(self):
        self.tell("game ash elm", "game elm oak", "game oak ash", "enter 0 home", "enter 1 draw", "off 2")
        before = self.state()
        self.expect(("withdraw elm", "ok"), ("table", "1 ash 0 0 0; 2 elm 0 0 0; 3 oak 0 0 0"),
                    ("enter 0 home", "no BadGame"), ("undo", "ok"))
        self.assertEqual(before, self.state())
        self.expect(("table", "1 ash 1 1 3; 2 elm 2 0 1; 3 oak 1 0 1"), ("enter 0 away", "ok"),
                    ("game elm ash", "3"), ("left", "3"))

    def test_a_number_is_given_again(self):
        self.expect(("game ash elm", "0"), ("game elm oak", "1"), ("undo", "ok"), ("off 1", "no BadGame"),
                    ("game oak ash", "1"), ("enter 1 home", "ok"), ("table", "1 oak 1 1 3; 2 ash 1 0 0; 3 elm 0 0 0"),
                    ("undo", "ok"), ("undo", "ok"), ("undo", "ok"), ("game oak elm", "0"), ("left", "0"))

    def test_none_left(self):
        self.expect(("undo", "no NothingThere"), ("undo", "no NothingThere"), ("game ash elm", "0"), ("undo", "ok"),
                    ("undo", "no NothingThere"), ("left", ""), ("game ash elm", "0"), ("left", "0"))

    def test_an_undo_is_never_taken_back(self):
        self.tell("game ash elm", "enter 0 home")
        self.expect(("undo", "ok"), ("left", "0"), ("undo", "ok"), ("left", ""), ("off 0", "no BadGame"),
                    ("undo", "no NothingThere"))

    def test_refused_lines_and_questions_are_passed_over(self):
        self.tell("game ash elm", "enter 0 home")
        refused = ("enter 0 no", "enter 5 home", "game ash ash", "game ash fir", "off 9", "reopen 1", "withdraw fir",
                   "sure ash 0", "places fir")
        for line in refused:
            self.assertTrue(self.desk.tell(line).startswith("no Bad"))
        self.tell("table", "left", "round", "places ash", "sure ash 1", "may ash 1", "needs ash 1", "deciders ash 1")
        for line in NO_LINES:
            self.expect_no_line(line)
        self.expect(("left", ""), ("undo", "ok"), ("left", "0"), ("undo", "ok"), ("undo", "no NothingThere"))


class RefusedTest(DeskCase):
    def test_nothing_is_changed(self):
        self.tell("game ash elm", "game elm oak", "enter 0 draw", "withdraw oak", "game elm ash")
        questions = ("table", "left", "round", "places ash", "deciders elm 1")
        before = self.tell(*questions)
        for line in ("game ash no", "game oak ash", "game ash ash", "enter 9 home", "enter 1 home", "enter 0 won",
                     "off 1", "reopen 1", "off 3", "withdraw oak", "withdraw no", "sure ash 4", "needs oak 0",
                     "places pine"):
            self.assertTrue(self.desk.tell(line).startswith("no Bad"), line)
            self.assertEqual(before, self.tell(*questions))

    def test_no_lines(self):
        for line in NO_LINES + NO_STRINGS + (deep(40), ["table"], ("undo",)):
            self.expect_no_line(line)
        self.assertEqual("", self.desk.log())
        self.expect(("left", ""), ("undo", "no NothingThere"))

    def test_lines_with_blanks_and_line_feeds(self):
        self.tell("game ash elm")
        for line in LINES:
            for other in spoilt(line):
                self.expect_no_line(other)
        self.assertEqual("game ash elm\n", self.desk.log())
        for line in LINES:
            self.assertIs(str, self.desk.tell(line).__class__)
        self.assertEqual("".join(line + "\n" for line in ("game ash elm",) + LINES), self.desk.log())

    def test_each_sign_that_is_no_figure_or_no_small_letter(self):
        for sign in map(chr, list(range(0x180)) + [0x661, 0x966, 0x3b1, 0x430, 0xff11, 0xff41]):
            if sign not in "0123456789":
                for word in (sign, "1" + sign, sign + "1", "1" + sign + "1"):
                    for line in ("off " + word, "enter " + word + " home", "sure ash " + word):
                        self.expect_no_line(line)
            if sign not in "abcdefghijklmnopqrstuvwxyz":
                for word in (sign, "ash" + sign, sign + "ash", "a" + sign + "h"):
                    for line in ("withdraw " + word, "game ash " + word, "enter 0 " + word, "sure " + word + " 1"):
                        self.expect_no_line(line)

    def test_the_greatest_numbers(self):
        self.expect(("off 999999999", "no BadGame"), ("off 100000000", "no BadGame"),
                    ("sure ash 999999999", "no BadValue"))

    def test_lines_of_many_signs(self):
        for line in ("a" * 200000, " " * 200000, "\n" * 200000, "table" + " " * 199995, "game " + "a " * 99997):
            self.expect_no_line(line)


class LogTest(DeskCase):
    def test_answered_lines_refused_ones_too(self):
        self.assertEqual("", self.desk.log())
        lines = ("game ash elm", "enter 0 home", "enter 3 home", "game ash fir", "table", "sure ash 9", "undo", "left",
                 "undo", "undo", "round")
        self.tell(*lines)
        due = "".join(line + "\n" for line in lines)
        self.assertEqual(due, self.desk.log())
        self.assertEqual(due, self.desk.log())
        for line in NO_LINES:
            self.expect_no_line(line)
        self.tell("withdraw elm")
        self.assertEqual(due + "withdraw elm\n", self.desk.log())

    def test_replayed(self):
        self.tell("game ash elm", "game elm oak", "enter 0 draw", "enter 1 away", "withdraw fir", "undo",
                  "withdraw elm", "table", "off 0")
        desk = replayed(TRIO, WITH_DRAWS, PLAIN, self.desk.log())
        self.assertIs(Desk, desk.__class__)
        self.assertEqual(self.desk.log(), desk.log())
        for line in ("table", "left", "undo", "table", "left", "undo", "table", "undo", "undo", "left", "undo",
                     "round"):
            self.assertEqual(self.desk.tell(line), desk.tell(line))
        self.assertEqual(self.desk.log(), desk.log())

    def test_they_change_by_themselves(self):
        self.tell("game ash elm")
        desk = replayed(TRIO, WITH_DRAWS, PLAIN, self.desk.log())
        desk.tell("enter 0 home")
        self.expect(("left", "0"), ("undo", "ok"))
        self.assertEqual("", desk.tell("left"))

    def test_no_line_at_all(self):
        desk = replayed(TRIO, WITH_DRAWS, PLAIN, "")
        self.assertEqual(("", "no NothingThere"), (desk.log(), desk.tell("undo")))

    def test_told_to_another_league(self):
        self.tell("game ash elm", "enter 0 draw", "undo", "undo")
        desk = replayed(("ash", "elm"), WITHOUT_DRAWS, PLAIN, self.desk.log())
        self.assertEqual((self.desk.log(), "no NothingThere"), (desk.log(), desk.tell("undo")))

    def test_no_last_line_feed(self):
        for log, at in (("undo", 0), ("undo\ntable", 1), ("undo\ntable\nleft\n ", 3), ("undo\nno", 1), (" ", 0),
                        ("game ash elm\nenter 0 home\nundo\ntable", 3)):
            expect(self, BadLine, "at", at, replayed, TRIO, WITH_DRAWS, PLAIN, log)

    def test_the_first_wrong_line(self):
        for log, at in (("no\n", 0), ("undo\nno\n", 1), ("undo\nno\nno\n", 1), ("undo\nno\ntable", 1), ("no\ntable", 0),
                        ("\n", 0), ("\nundo\n", 0), ("undo\n\n", 1), ("undo\n\nundo\n", 1), ("undo\n\n\n", 1),
                        ("undo\ntable\n\n", 2), ("undo\r\n", 0), ("undo\n table\n", 1), ("undo\ntable \n", 1),
                        ("off 9\nundo\noff 09\n", 2), ("undo\rtable\n", 0), ("undo\x0btable\n", 0),
                        ("undo\n" * 20 + "table\u2028left\n", 20), ("undo\x85left\n", 0), ("\ufeffundo\n", 0)):
            expect(self, BadLine, "at", at, replayed, TRIO, WITH_DRAWS, PLAIN, log)
        for line in NO_LINES:
            if "\n" not in line:
                expect(self, BadLine, "at", 2, replayed, TRIO, WITH_DRAWS, PLAIN, f"left\nundo\n{line}\nundo\n")

    def test_what_is_no_string(self):
        for log in NO_STRINGS + (["undo\n"], ("undo\n",), deep(40)):
            expect(self, BadLine, "at", 0, replayed, TRIO, WITH_DRAWS, PLAIN, log)

    def test_refused_lines_in_a_log_are_answered(self):
        log = "enter 0 home\nundo\ngame ash ash\ngame ash fir\nsure ash 0\n"
        self.assertEqual(log, replayed(TRIO, WITH_DRAWS, PLAIN, log).log())

    def test_a_long_log(self):
        log = "game ash elm\n" + "off 0\nreopen 0\n" * 5000 + "undo\n" * 10000
        desk = replayed(TRIO, WITH_DRAWS, PLAIN, log)
        self.assertEqual(log, desk.log())
        self.assertEqual(["0", "ok", "", "no NothingThere"],
                         [desk.tell(line) for line in ("left", "undo", "left", "undo")])


class DrawnLinesTest(unittest.TestCase):
    """Many lines, told to a desk and to a second reckoning that makes its league anew for each."""

    def drawn_line(self, dice, league):
        sides = league.sides() + ("no",)
        values = {WORD: lambda: dice.choice(sides), NUMBER: lambda: str(dice.randint(0, len(league.games())))}
        words = ("game",) * 3 + ("enter",) * 5 + ("undo",) * 3 + tuple(FORMS)
        word = dice.choice([word for word in words if word != "withdraw" or dice.random() < 0.3])
        given = [values[form]() for form in FORMS[word]]
        if word == "enter":
            given[1] = dice.choice(outcomes(league) + ["draw"])
        line = " ".join([word] + given)
        return dice.choice(list(spoilt(line))) if dice.random() < 0.03 else line

    def answer(self, desk, line):
        """The answer, or the number that a BadLine keeps."""
        try:
            return desk.tell(line)
        except BadLine as error:
            return error.at

    def test_many_desks(self):
        seen = set()
        for seed in range(80):
            dice = random.Random(seed)
            given = (dice.sample(EIGHT, dice.randint(2, 5)), dice.choice((WITH_DRAWS, WITHOUT_DRAWS, (2, 1, 0))),
                     dice.choice(ALL_RULES))
            desk, told = Desk(*given), ToldDesk(*given)
            for _ in range(60):
                league = told.league()
                line = self.drawn_line(dice, league)
                # Trying all endings is slow: so results come before many games are left.
                if len(league.left()) > 3 and line.startswith("game"):
                    line = f"enter {league.left()[0]} home"
                due = self.answer(told, line)
                self.assertEqual(due, self.answer(desk, line), line)
                seen.add((line.split(" ")[0], due if due in ("ok", "yes", "no", "none") or due == 0
                          else due if due.startswith("no ") else "told"))
            self.assertEqual("".join(line + "\n" for line in told.lines), desk.log())
            again = replayed(*given, desk.log())
            for line in ("table", "left", "round") + ("undo", "table", "left") * 20:
                due = told.tell(line)
                self.assertEqual([due, due], [desk.tell(line), again.tell(line)])
        for pair in (("game", "told"), ("game", "no BadSide"), ("game", "no BadValue"), ("enter", "no BadGame"),
                     ("enter", "no BadValue"), ("undo", "ok"), ("undo", "no NothingThere"), ("sure", "yes"),
                     ("sure", "no"), ("may", "yes"), ("may", "no"), ("needs", "none"), ("needs", "told"),
                     ("deciders", "told"), ("round", "none"), ("round", "told"), ("withdraw", "ok"), ("off", "ok"),
                     ("reopen", "ok"), ("places", "told"), ("sure", "no BadValue"), ("off", "no BadGame")):
            self.assertIn(pair, seen)


if __name__ == "__main__":
    unittest.main()
