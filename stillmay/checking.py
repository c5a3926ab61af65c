"""The checking of papers, one line at a time, without any search for endings or pairings."""

from stillmay.basics import check_place, parted_lines, position
from stillmay.errors import BadPaper, BadValue
from stillmay.meetings import asked_meetings, is_barrier, partners, without
from stillmay.trees import CLAIMS, TreeWalk


def paper_holds(league, side, place, claim, paper):
    """True if the paper is a tree for the claim in which each line is right."""
    at = position(league, side)
    check_place(league, place)
    if claim not in CLAIMS:
        raise BadValue(3)
    splits = {f"split {number}": number for number in league.left()}
    _check_lines(paper, TreeReader(TreeWalk(league, at, place, claim), splits))
    return True


def pairing_holds(order, met, paper):
    """True if the paper tells the first pairing, or that there is none, and each line is right."""
    meetings = asked_meetings(order, met)
    _check_lines(paper, PairingReader(order, meetings))
    return True


class TreeReader:
    """Takes the lines of a tree, one after the other."""

    def __init__(self, walk, splits):
        self._walk = walk
        # The lines that tell a split, each with its game. A number is looked up, not read: so it
        # has no other form, and figures without end do no harm.
        self._splits = splits

    def is_whole(self):
        """Whether no line is due any more."""
        return self._walk.is_whole()

    def takes(self, line):
        """Whether the line is right where it stands; only then may a next one be asked for."""
        if line in self._splits:
            return self._takes_split(self._splits[line])
        if line == "bound":
            right = self._walk.is_bound()
        elif line == "end":
            right = self._walk.is_end()
        else:
            return False
        if right:
            self._walk.close()
        return right

    def _takes_split(self, number):
        if number not in self._walk.left():
            return False
        self._walk.fork(number)
        return True


class PairingReader:
    """Takes the lines of a paper about a pairing, one after the other."""

    def __init__(self, order, meetings):
        self._meetings = meetings
        self._free = list(order)
        # Those whom the first of the free sides may meet and of whom no line has told yet.
        self._due = partners(self._free, meetings)
        self._begun = False
        self._whole = False

    def is_whole(self):
        """Whether no line is due any more."""
        return self._whole

    def takes(self, line):
        """Whether the line is right where it stands; only then may a next one be asked for."""
        words = line.split(" ")
        begun = self._begun
        self._begun = True
        if words[:2] == ["none", "by"]:
            self._whole = not begun and self._are_barrier(words[2:], self._free)
            return self._whole
        if not self._due:
            return False
        first, second = self._free[0], self._due[0]
        if words == ["pair", first, second]:
            self._pair(first, second)
            return True
        if words[:4] != ["not", first, second, "by"]:
            return False
        self._due = self._due[1:]
        return self._are_barrier(words[4:], without(self._free, first, second))

    def _pair(self, first, second):
        self._free = without(self._free, first, second)
        self._whole = not self._free
        if self._free:
            self._due = partners(self._free, self._meetings)

    def _are_barrier(self, words, lot):
        in_order = [side for side in lot if side in words]
        return words == in_order and is_barrier(lot, words, self._meetings)


def _check_lines(paper, reader):
    """Raise BadPaper at the first line that the reader does not take, or that lacks."""
    if not isinstance(paper, str):
        raise BadPaper(0)
    lines, unended = parted_lines(paper)
    for number, line in enumerate(lines):
        if reader.is_whole() or not reader.takes(line):
            raise BadPaper(number)
    if unended != "" or not reader.is_whole():
        raise BadPaper(len(lines))
