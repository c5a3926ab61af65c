"""Points [26] and [27]: papers that tell the first pairing, or that there is none, and their checking."""

import itertools
import random
import re
import unittest

from stillmay.checking import pairing_holds
from stillmay.errors import BadPaper, BadValue
from stillmay.pairings import pairing, pairing_paper
from tests.helper import (EIGHT, NO_STRINGS, TEN, TRIO, as_text, deep, drawn_order, expect, spoilt_papers,
                          told_barrier, told_is_barrier, told_lines, told_pairing)

FOUR = EIGHT[:4]
SIX = EIGHT[:6]
# All others that ash leaves could meet oak alone, if it meets elm; fir and box nobody, if it meets oak.
FREE = [("ash", "elm"), ("ash", "oak"), ("ash", "fir"), ("elm", "oak"), ("elm", "yew"), ("oak", "fir"), ("oak", "yew"),
        ("oak", "box")]
MET = [pair for pair in itertools.combinations(SIX, 2) if pair not in FREE]
LINES = ["not ash elm by oak", "not ash oak by", "pair ash fir", "not elm oak by", "pair elm yew", "pair oak box"]
# fir has met all others.
LONELY = [("ash", "fir"), ("fir", "elm"), ("oak", "fir")]
# All could meet elm alone.
CENTRE = [("ash", "oak"), ("ash", "fir"), ("oak", "fir")]


def told_by(head, chosen):
    return head + "".join(" " + side for side in chosen)


def told_paper(order, met):
    """The lines of point [26]."""
    pairs = told_pairing(order, met)
    if pairs is None:
        return [told_by("none by", told_barrier(order, met))]
    barred = {frozenset(pair) for pair in met}
    lines = []
    gone = set()
    for first, second in pairs:
        for side in order[:list(order).index(second)]:
            if side != first and side not in gone and frozenset((first, side)) not in barred:
                lot = [other for other in order if other not in gone and other not in (first, side)]
                lines.append(told_by(f"not {first} {side} by", told_barrier(lot, met)))
        lines.append(f"pair {first} {second}")
        gone |= {first, second}
    return lines


def is_told_barrier(words, lot, met):
    """Whether the words behind `by` are a barrier, in the order of the lot."""
    if not re.fullmatch("( [a-z]+)*", words):
        return False
    chosen = words.split()
    if any(side not in lot for side in chosen) or sorted(set(chosen), key=list(lot).index) != chosen:
        return False
    return told_is_barrier(lot, chosen, met)


def told_wrong(order, met, paper):
    """The number of the first wrong line by the words of the document, or None."""
    barred = {frozenset(pair) for pair in met}
    lines = told_lines(paper)
    gone, passed = set(), set()
    for at, line in enumerate(lines):
        free = [side for side in order if side not in gone]
        if not free or not line.endswith("\n"):
            return at
        if at == 0 and line.startswith("none by"):
            right = is_told_barrier(line[len("none by"):-1], free, met)
            return 0 if not right else 1 if len(lines) > 1 else None
        due = [side for side in free[1:] if frozenset((free[0], side)) not in barred and side not in passed]
        if not due:
            return at
        head = f"not {free[0]} {due[0]} by"
        if line == f"pair {free[0]} {due[0]}\n":
            gone |= {free[0], due[0]}
            passed = set()
        elif line.startswith(head):
            lot = [side for side in free if side not in (free[0], due[0])]
            if not is_told_barrier(line[len(head):-1], lot, met):
                return at
            passed |= {due[0]}
        else:
            return at
    return None if len(gone) == len(order) else len(lines)


class PairingPaperTest(unittest.TestCase):
    def test_line_by_line(self):
        self.assertEqual((("ash", "fir"), ("elm", "yew"), ("oak", "box")), pairing(SIX, MET))
        self.assertEqual("".join(line + "\n" for line in LINES), pairing_paper(SIX, MET))
        self.assertEqual(told_paper(SIX, MET), LINES)

    def test_pairs_alone(self):
        for many in (2, 4, 6, 8, 10):
            lines = [f"pair {TEN[at]} {TEN[at + 1]}" for at in range(0, many, 2)]
            self.assertEqual(as_text(lines), pairing_paper(TEN[:many], ()))
            self.assertEqual(as_text(lines), pairing_paper(list(TEN[:many]), []))

    def test_empty_barriers(self):
        self.assertEqual("not ash elm by\npair ash oak\npair elm fir\n", pairing_paper(FOUR, [("oak", "fir")]))
        self.assertEqual("not ash elm by\nnot ash oak by\npair ash fir\npair elm oak\n",
                         pairing_paper(FOUR, [("oak", "fir"), ("fir", "elm")]))
        self.assertEqual("not ash oak by\npair ash fir\npair elm oak\n",
                         pairing_paper(FOUR, [("ash", "elm"), ("fir", "elm")]))

    def test_no_pairing(self):
        self.assertEqual("none by\n", pairing_paper(FOUR, LONELY))
        self.assertEqual("none by elm\n", pairing_paper(FOUR, CENTRE))
        self.assertEqual("none by\n", pairing_paper(("b", "a"), [("a", "b")]))
        met = list(itertools.combinations(("ash", "oak", "yew", "box"), 2))
        self.assertEqual("none by elm fir\n", pairing_paper(SIX, met))
        self.assertEqual("none by fir elm\n", pairing_paper(SIX[::-1], met))

    def test_sides_that_were_met_and_sides_in_pairs_ahead_have_no_line(self):
        # elm was met, oak leaves fir without anybody; box is in the first pair.
        met = [("ash", "elm"), ("fir", "elm"), ("fir", "yew")]
        order = ("ash", "elm", "oak", "fir", "yew", "box")
        self.assertEqual(told_paper(order, met), pairing_paper(order, met).splitlines())
        self.assertNotIn("ash elm", pairing_paper(order, met))

    def test_against_a_slow_trying(self):
        kinds = {"pair": 0, "not": 0, "none": 0, "by": 0}
        for seed in range(2000, 2660):
            order, met = drawn_order(seed)
            text = pairing_paper(order, met)
            self.assertEqual(as_text(told_paper(order, met)), text)
            self.assertEqual(text, pairing_paper(tuple(order), tuple(met)))
            self.assertIs(True, pairing_holds(order, met, text))
            for line in text.splitlines():
                kinds[line.split()[0]] += 1
                kinds["by"] += line.startswith("not") and not line.endswith("by")
        self.assertGreater(min(kinds.values()), 20)


class PairingCase(unittest.TestCase):
    def refused(self, at, order, met, paper):
        self.assertEqual(0 if not isinstance(paper, str) else told_wrong(order, met, paper), at)
        expect(self, BadPaper, "at", at, pairing_holds, order, met, paper)

    def taken(self, order, met, paper):
        self.assertIsNone(told_wrong(order, met, paper))
        self.assertIs(True, pairing_holds(order, met, paper))


class RightPapersTest(PairingCase):
    def test_the_paper_of_point_26(self):
        self.taken(SIX, MET, pairing_paper(SIX, MET))
        self.taken(list(SIX), [list(pair) for pair in MET], pairing_paper(SIX, MET))
        self.taken(FOUR, LONELY, "none by\n")
        self.taken(FOUR, CENTRE, "none by elm\n")
        for sides in ((TEN[0], TEN[1]), TEN):
            self.taken(sides, (), pairing_paper(sides, ()))

    def test_any_barrier_may_stand(self):
        # The other three, without fir, are an odd part, too: with elm or without it.
        met = LONELY + [("ash", "oak")]
        self.assertEqual("none by\n", pairing_paper(FOUR, met))
        self.taken(FOUR, met, "none by\n")
        self.taken(FOUR, met, "none by elm\n")
        self.refused(0, FOUR, met, "none by ash\n")
        for seed in range(3000, 3200):
            order, met = drawn_order(seed)
            lines = pairing_paper(order, met).splitlines()
            dice = random.Random(seed)
            self.taken(order, met, as_text(self.other_barriers(order, met, lines, dice)))

    def other_barriers(self, order, met, lines, dice):
        """The lines with some barriers in the place of the first ones."""
        lot = list(order)
        others = []
        for line in lines:
            words = line.split()
            if words[0] == "pair":
                lot = [side for side in lot if side not in words[1:]]
                others.append(line)
                continue
            head = words[:words.index("by") + 1]
            part = lot if words[0] == "none" else [side for side in lot if side not in words[1:3]]
            barriers = [chosen for many in range(len(part)) for chosen in itertools.combinations(part, many)
                        if told_is_barrier(part, chosen, met)]
            others.append(" ".join(head + list(dice.choice(barriers))))
        return others

    def test_names_that_are_words_of_the_paper(self):
        order = ("by", "not", "pair", "none")
        for met in ((), [("by", "not")], [("pair", "none")], [("none", "by"), ("none", "not"), ("none", "pair")],
                    [("by", "pair"), ("by", "none"), ("pair", "none")]):
            text = pairing_paper(order, met)
            self.assertEqual(as_text(told_paper(order, met)), text)
            self.taken(order, met, text)
        self.refused(0, order, (), "none by\n")
        self.refused(0, order, (), "none by by\n")

    def test_what_is_taken_is_true(self):
        # All papers of up to three lines with empty barriers, for all that two or four sides can have met.
        found = {True: 0, False: 0}
        for sides in (TEN[:2], TEN[:4]):
            pairs = list(itertools.combinations(sides, 2))
            heads = ["pair %s %s" % pair for pair in pairs] + ["not %s %s by" % pair for pair in pairs] + ["none by"]
            papers = [lines for many in (1, 2, 3) for lines in itertools.product(heads, repeat=many)]
            for met in (met for many in range(len(pairs) + 1) for met in itertools.combinations(pairs, many)):
                for lines in papers:
                    if told_wrong(sides, met, as_text(lines)) is None:
                        self.taken(sides, met, as_text(lines))
                        told = tuple(tuple(line.split()[1:]) for line in lines if line.startswith("pair"))
                        self.assertEqual(told_pairing(sides, met), told or None)
                        found[bool(told)] += 1
        self.assertGreater(min(found.values()), 5)


class SpoiltPapersTest(PairingCase):
    def test_a_line_left_out_or_twice(self):
        for at in range(len(LINES)):
            self.refused(at, SIX, MET, as_text(LINES[:at] + LINES[at + 1:]))
            self.refused(at + 1, SIX, MET, as_text(LINES[:at + 1] + LINES[at:]))

    def test_lines_in_another_sequence(self):
        self.refused(0, SIX, MET, as_text([LINES[1], LINES[0]] + LINES[2:]))
        self.refused(1, SIX, MET, as_text([LINES[0], LINES[2], LINES[1]] + LINES[3:]))
        self.refused(4, SIX, MET, as_text(LINES[:4] + [LINES[5], LINES[4]]))

    def test_not_lines_that_are_wrong(self):
        for line in ("not ash elm by", "not ash elm by elm", "not ash elm by ash", "not ash elm by box",
                     "not ash elm by oak fir", "not ash elm by fir oak", "not ash elm by oak oak", "not ash elm by no",
                     "not elm ash by oak", "not ash oak by oak", "not ash yew by oak", "not ash fir by oak",
                     "not ash elm by  oak", "not ash elm by oak ", "not ash elm  by oak", "not  ash elm by oak",
                     " not ash elm by oak", "not ash elm oak", "not ash elm", "not ash", "not", "not ash elm byoak",
                     "not ash elm By oak", "Not ash elm by oak", "not ash elm by oak\r", "not ash elm by,oak",
                     "not\tash elm by oak", "not ash elm by oak by", "not ash elm by Oak", "not ash elm by by oak",
                     "none by", "none by oak", "none by elm oak", "", " ", "by", "pair ash oak", "pair ash fir",
                     "pair elm ash", "pair elm oak", "other", "not ash elm by oak\x0b", "not ash elm by\u00a0oak"):
            self.refused(0, SIX, MET, as_text([line] + LINES[1:]))
            self.refused(0, SIX, MET, as_text([line] + LINES))
        for line in ("not elm oak by ", "not elm oak by oak", "not elm oak by  ", "not elm oak", "not elm oak by elm",
                     "not elm oak by ash", "not elm oak by fir", "not elm oak by yew box", "not oak elm by",
                     "not elm yew by", "not ash elm by", "none by"):
            self.refused(3, SIX, MET, as_text(LINES[:3] + [line] + LINES[4:]))

    def test_a_not_line_in_the_place_of_a_pair(self):
        self.refused(2, SIX, MET, as_text(LINES[:2] + ["not ash fir by"] + LINES[2:]))
        self.refused(4, SIX, MET, as_text(LINES[:4] + ["not elm yew by"] + LINES[4:]))
        self.refused(5, SIX, MET, as_text(LINES[:5] + ["not oak box by"] + LINES[5:]))

    def test_pair_lines_that_are_wrong(self):
        # ash has met yew, and may meet nobody behind fir; no pair is told the other way round.
        for line in ("pair ash yew", "pair ash box", "pair fir ash", "pair elm yew", "pair ash ash", "pair ash no",
                     "pair ash", "pair", "pair ash fir ", "pair  ash fir", " pair ash fir", "pair ash  fir",
                     "Pair ash fir", "pair ash fir oak", "pair ash fir\r", "pair\tash fir", "pairs ash fir",
                     "pair ash elm", "pair ash oak", "pair Ash fir", "pair ash fir by", "none by", "none by elm oak"):
            self.refused(2, SIX, MET, as_text(LINES[:2] + [line] + LINES[3:]))
        for line in ("pair box oak", "pair oak fir", "pair oak ash", "pair elm oak", "pair oak yew", "none by",
                     "not oak box by oak"):
            self.refused(5, SIX, MET, as_text(LINES[:5] + [line]))

    def test_a_pair_ahead_of_its_turn(self):
        # A side that could be met ahead of it needs its not line.
        self.refused(0, FOUR, (), "pair ash oak\npair elm fir\n")
        self.refused(0, FOUR, [("oak", "fir")], "pair ash oak\npair elm fir\n")
        # A pair that leaves the others without a pairing is found out at the next line.
        self.refused(1, FOUR, [("oak", "fir")], "pair ash elm\npair oak fir\n")
        self.refused(1, FOUR, [("oak", "fir")], "pair ash elm\n")
        self.refused(1, FOUR, [("oak", "fir")], "pair ash elm\nnot oak fir by\n")

    def test_nobody_is_left_to_be_met(self):
        # Each partner of ash is told off rightly; then no line is due, and the paper is not whole.
        text = "not ash elm by\nnot ash oak by\n"
        self.refused(2, FOUR, LONELY, text)
        for line in ("pair ash fir", "not ash fir by", "none by", "pair elm oak", ""):
            self.refused(2, FOUR, LONELY, text + line + "\n")
        self.refused(0, ("a", "b"), [("b", "a")], "pair a b\n")
        self.refused(0, ("a", "b"), [("b", "a")], "not a b by\n")
        self.refused(0, ("a", "b"), [("b", "a")], "")
        self.refused(0, ("a", "b"), (), "not a b by\n")

    def test_none_by(self):
        for line in ("none by ", "none by elm", "none by elm ash", "none  by", " none by", "none", "none by\r",
                     "None by", "none by fir", "none by no", "none by elm elm", "none by ash elm oak fir",
                     "none by ash elm oak"):
            self.refused(0, FOUR, LONELY, line + "\n")
        for line in ("none by", "none by elm ", "none by  elm", "none by ash", "none by elm fir", "none by elm elm",
                     "none by fir elm", "none by Elm", "none by elm\t"):
            self.refused(0, FOUR, CENTRE, line + "\n")
        # Two sides of a barrier stand in the order of order.
        met = list(itertools.combinations(("ash", "oak", "yew", "box"), 2))
        self.taken(SIX, met, "none by elm fir\n")
        self.refused(0, SIX, met, "none by fir elm\n")
        self.taken(SIX[::-1], met, "none by fir elm\n")
        self.refused(0, SIX[::-1], met, "none by elm fir\n")
        # There is a pairing.
        self.refused(0, FOUR, (), "none by\n")
        # It stands alone.
        self.refused(1, FOUR, LONELY, "none by\nnone by\n")
        self.refused(1, FOUR, LONELY, "none by\n\n")
        self.refused(1, FOUR, LONELY, "none by\nx")
        self.refused(1, FOUR, LONELY, "not ash elm by\nnone by\n")
        self.refused(1, FOUR, LONELY, "none by\npair ash elm\n")

    def test_lines_behind_the_last_pair(self):
        for line in ("pair ash fir", "pair oak box", "none by", "", "not oak box by", "x"):
            self.refused(6, SIX, MET, as_text(LINES + [line]))
            self.refused(6, SIX, MET, as_text(LINES) + line + "x")
            self.refused(6, SIX, MET, as_text(LINES + [line, line]))

    def test_lines_that_lack(self):
        for many in range(6):
            self.refused(many, SIX, MET, as_text(LINES[:many]))
        self.refused(0, FOUR, LONELY, "")
        self.refused(0, FOUR, (), "\n")

    def test_a_last_line_without_a_line_feed(self):
        for many in range(1, 7):
            self.refused(many - 1, SIX, MET, "\n".join(LINES[:many]))
        self.refused(0, FOUR, LONELY, "none by")
        self.refused(0, ("a", "b"), (), "pair a b")
        self.refused(0, ("a", "b"), (), "pair a b\r")
        self.refused(0, ("a", "b"), (), "\npair a b\n")

    def test_what_is_no_string(self):
        for value in NO_STRINGS + (b"pair ash elm\n", ("pair ash elm\n", "pair oak fir\n"), deep(40)):
            self.refused(0, FOUR, (), value)
            self.refused(0, FOUR, LONELY, value)

    def test_long_papers(self):
        self.refused(2, FOUR, (), "pair ash elm\npair oak fir\n" * 5000)
        self.refused(0, FOUR, (), "\n" * 200000)
        self.refused(0, FOUR, LONELY, "none by" + " ash" * 49998 + "\n")
        self.refused(0, FOUR, LONELY, "none by" + " " * 199992 + "\n")
        self.refused(0, FOUR, (), "not ash elm by" + " oak" * 40000 + "\n")

    def test_against_a_slow_reading(self):
        outcome = {True: 0, False: 0}
        for seed in range(4000, 4110):
            order, met = drawn_order(seed)
            if len(order) > 8:
                continue
            dice = random.Random(seed)
            words = ["none by", told_by(f"not {order[0]} {order[1]} by", order[2:3]), f"pair {order[-2]} {order[-1]}"]
            for paper in spoilt_papers(pairing_paper(order, met).splitlines(), words, dice):
                wrong = told_wrong(order, met, paper)
                outcome[wrong is None] += 1
                if wrong is None:
                    self.taken(order, met, paper)
                else:
                    self.refused(wrong, order, met, paper)
        self.assertGreater(outcome[True], 100)
        self.assertGreater(outcome[False], 1000)

    def test_drawn_lines(self):
        # Papers put together out of lines that are right somewhere: most of what they tell is due.
        outcome = {True: 0, False: 0}
        for seed in range(5000, 5400):
            order, met = drawn_order(seed)
            order = order[:6]
            met = [pair for pair in met if set(pair) <= set(order)]
            dice = random.Random(seed)
            lines = []
            while len(lines) < 8 and told_wrong(order, met, as_text(lines)) == len(lines):
                heads = ["none by"] + [f"{word} {one} {other}" for word in ("pair", "not")
                                       for one, other in itertools.permutations(order, 2)]
                head = dice.choice(heads)
                if head.startswith("not"):
                    head = told_by(head + " by", dice.choice(((), order[:1], order[1:2], order[2:4], order[3:2:-1])))
                if told_wrong(order, met, as_text(lines + [head])) != len(lines) or dice.random() < 0.1:
                    lines.append(head)
            text = as_text(lines)
            wrong = told_wrong(order, met, text)
            outcome[wrong is None] += 1
            if wrong is None:
                self.taken(order, met, text)
            else:
                self.refused(wrong, order, met, text)
        self.assertGreater(min(outcome.values()), 20)


class ErrorsTest(unittest.TestCase):
    def test_each_error_in_its_turn(self):
        for order, met, paper in itertools.product((FOUR, TRIO, (), None, ("ash", "ash")),
                                                   ((), None, (("ash", "yew"),), (("ash", "ash"),)),
                                                   ("x\n", "", None, 7)):
            if order != FOUR:
                expect(self, BadValue, "at", 0, pairing_holds, order, met, paper)
            elif met != ():
                expect(self, BadValue, "at", 1, pairing_holds, order, met, paper)
            else:
                expect(self, BadPaper, "at", 0, pairing_holds, order, met, paper)

    def test_nothing_that_is_handed_in_is_changed(self):
        order, met = list(SIX), [list(pair) for pair in MET]
        self.assertIs(True, pairing_holds(paper=as_text(LINES), order=order, met=met))
        self.assertEqual((list(SIX), [list(pair) for pair in MET]), (order, met))


if __name__ == "__main__":
    unittest.main()
