"""What ended games give the sides, and how the rules part them by it."""

from stillmay.basics import OUTCOMES


class Tally:
    """The numbers of each side of a league; sides are told by their positions in the order of sides."""

    def __init__(self, league):
        many = len(league.sides())
        self._scheme = league.scheme()
        self._rules = league.rules()
        self._everyone = tuple(range(many))
        self._points = [0] * many
        self._wins = [0] * many
        self._away_wins = [0] * many
        self._played = [0] * many
        # In the row of a side, its points against each one.
        self._against = [[0] * many for at in range(many)]
        for home, away, state in seated_games(league):
            if state in OUTCOMES:
                self.score(home, away, state, 1)

    def score(self, home, away, outcome, by):
        """Count a game with this outcome so many times; -1 takes a counted one back."""
        win, draw, loss = self._scheme
        self._played[home] += by
        self._played[away] += by
        if outcome == "home":
            self._wins[home] += by
            self._share(home, away, win * by, loss * by)
        elif outcome == "away":
            self._wins[away] += by
            self._away_wins[away] += by
            self._share(home, away, loss * by, win * by)
        else:
            self._share(home, away, draw * by, draw * by)

    def _share(self, home, away, to_home, to_away):
        self._points[home] += to_home
        self._points[away] += to_away
        self._against[home][away] += to_home
        self._against[away][home] += to_away

    def points(self, at):
        """The points of the side out of all games that are counted."""
        return self._points[at]

    def wins(self, at):
        """How many games the side won."""
        return self._wins[at]

    def away_wins(self, at):
        """How many games the side won that were the other side's home games."""
        return self._away_wins[at]

    def played(self, at):
        """How many games of the side are counted."""
        return self._played[at]

    def points_among(self, at, others):
        """The points of the side out of its games against these, each of whom stands there once."""
        row = self._against[at]
        return sum([row[other] for other in others])

    def _numbers(self, rule, lot):
        if rule == "points":
            return [self._points[at] for at in lot]
        if rule == "wins":
            return [self._wins[at] for at in lot]
        if rule == "away":
            return [self._away_wins[at] for at in lot]
        return [self.points_among(at, lot) for at in lot]

    def lot_of(self, at):
        """How many sides stand ahead of the lot with this side that no rule parts, and this lot."""
        ahead = 0
        lot = self._everyone
        due = 0
        # How other lots are parted does not matter here, so only the side's own one is followed.
        while len(lot) > 1 and due < len(self._rules):
            rule = self._rules[due]
            numbers = self._numbers(rule, lot)
            own = numbers[lot.index(at)]
            ahead += len([number for number in numbers if number > own])
            level = tuple([other for other, number in zip(lot, numbers) if number == own])
            # Points among a smaller lot are others: "among" stays due until it parts no more.
            if rule != "among" or len(level) == len(lot):
                due += 1
            lot = level
        return ahead, lot

    def place(self, at):
        """The place of the side, the first one being 1."""
        ahead, lot = self.lot_of(at)
        return ahead + lot.index(at) + 1

    def order(self):
        """All sides, best first."""
        placed = [0] * len(self._everyone)
        for at in self._everyone:
            placed[self.place(at) - 1] = at
        return tuple(placed)


def seated_games(league):
    """The games of the league, with positions in the order of sides instead of names."""
    seat = {side: at for at, side in enumerate(league.sides())}
    return [(seat[home], seat[away], state) for home, away, state in league.games()]


def left_pairs(league):
    """The pairs (home, away) of the games that are left, as positions, in the sequence of these games."""
    return [(home, away) for home, away, state in seated_games(league) if state == "left"]


def walked(tally, pairs, outcomes, given):
    """Each ending of the games of these pairs (home, away), in their order, behind what is given.

    While an ending is looked at, the tally counts it; behind the last one the tally is as before.
    """
    if len(given) == len(pairs):
        yield given
        return
    home, away = pairs[len(given)]
    for outcome in outcomes:
        longer = given + (outcome,)
        tally.score(home, away, outcome, 1)
        yield from walked(tally, pairs, outcomes, longer)
        tally.score(home, away, outcome, -1)
