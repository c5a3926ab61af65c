"""Trees for claims about a league: what a node's bounds give, and the walk from node to node."""

from stillmay.basics import outcomes_of
from stillmay.tallies import Tally, left_pairs

# The side's place is worse than the one that is told; it is this one or better.
CLAIMS = ("never", "always")


class TreeWalk:
    """A walk over the nodes of a tree, in the sequence in which its lines tell them.

    One node is due at a time, first the root, until the tree is whole. Games are given outcomes on
    the way down to the due node; the walk keeps these in a list, so that no tree is too deep for it.
    """

    def __init__(self, league, at, place, claim):
        self._at = at
        self._place = place
        self._claim = claim
        self._scheme = league.scheme()
        self._outcomes = outcomes_of(league)
        self._tally = Tally(league)
        self._everyone = tuple(range(len(league.sides())))
        self._pairs = {number: pair for number, pair in zip(league.left(), left_pairs(league))}
        # How many games each side still has to play, seen from the due node.
        self._due_games = [0] * len(self._everyone)
        for home, away in left_pairs(league):
            self._due_games[home] += 1
            self._due_games[away] += 1
        # The games given outcomes on the way, each with the position of its outcome.
        self._steps = []
        self._whole = False

    def is_whole(self):
        """Whether each node has been told, so that none is due."""
        return self._whole

    def left(self):
        """The numbers of the games that are left to the due node, rising."""
        given = {number for number, chosen in self._steps}
        return [number for number in self._pairs if number not in given]

    def is_bound(self):
        """Whether the points that the sides can still get give the claim at the due node."""
        if self._claim == "never":
            own = self._most(self._at)
            above = [other for other in self._everyone if self._least(other) > own]
            return len(above) >= self._place
        own = self._least(self._at)
        below = [other for other in self._everyone if self._most(other) < own]
        return len(below) >= len(self._everyone) - self._place

    def is_end(self):
        """Whether no game is left to the due node, and the standings give the claim."""
        if len(self._steps) < len(self._pairs):
            return False
        reached = self._tally.place(self._at) <= self._place
        return reached == (self._claim == "always")

    def fork(self, number):
        """Let the due node have a kid for each outcome of this game; the first kid is due."""
        self._give(number, 0)

    def close(self):
        """Let the due node have no kids; the node that the next line tells is due."""
        while self._steps:
            number, chosen = self._take_back()
            if chosen + 1 < len(self._outcomes):
                self._give(number, chosen + 1)
                return
        self._whole = True

    def _give(self, number, chosen):
        self._steps.append((number, chosen))
        self._count(number, chosen, 1)

    def _take_back(self):
        number, chosen = self._steps.pop()
        self._count(number, chosen, -1)
        return number, chosen

    def _count(self, number, chosen, by):
        home, away = self._pairs[number]
        self._tally.score(home, away, self._outcomes[chosen], by)
        self._due_games[home] -= by
        self._due_games[away] -= by

    def _most(self, at):
        return self._tally.points(at) + self._due_games[at] * self._scheme[0]

    def _least(self, at):
        return self._tally.points(at) + self._due_games[at] * self._scheme[2]
