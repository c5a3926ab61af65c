"""Leagues: sides, the games between them, and what became of these."""

from stillmay.basics import are_names, is_integer, is_number, is_sequence, outcomes_of
from stillmay.errors import BadGame, BadSide, BadValue, TooMany

RULES = ("points", "wins", "away", "among")
FEWEST_SIDES = 2
MOST_SIDES = 8
MOST_GAMES = 80
MOST_POINTS = 100


class League:
    """Sides, a scheme of points, rules for the standings, and games."""

    def __init__(self, sides, scheme, rules):
        if not _are_sides(sides):
            raise BadValue(0)
        if not _is_scheme(scheme):
            raise BadValue(1)
        if not _are_rules(rules):
            raise BadValue(2)
        self._sides = tuple(sides)
        self._scheme = tuple(scheme)
        self._rules = tuple(rules)
        self._games = []
        self._gone = ()

    def __eq__(self, other):
        return (isinstance(other, League) and self._sides == other._sides
                and self._scheme == other._scheme and self._rules == other._rules
                and self._games == other._games and self._gone == other._gone)

    def sides(self):
        """The names of the sides, in the order of the lots."""
        return self._sides

    def scheme(self):
        """The points for a win, a draw (None: there are none) and a loss."""
        return self._scheme

    def rules(self):
        """The rules by which the standings are made, the first one first."""
        return self._rules

    def games(self):
        """For each game its home side, its away side and its state."""
        return tuple(self._games)

    def left(self):
        """The numbers of the games that are left, rising."""
        return tuple([number for number, game in enumerate(self._games) if game[2] == "left"])

    def withdrawn(self):
        """The sides that have withdrawn, in the order of sides."""
        return self._gone

    def copy(self):
        """A league that is the same, and changes by itself."""
        twin = League(self._sides, self._scheme, self._rules)
        twin._games = list(self._games)
        twin._gone = self._gone
        return twin

    def add_game(self, home, away):
        """Add a game, which is left; its number."""
        self._check_playing(home)
        self._check_playing(away)
        if home == away:
            raise BadValue(1)
        if len(self._games) >= MOST_GAMES:
            raise TooMany("games")
        self._games.append((home, away, "left"))
        return len(self._games) - 1

    def enter(self, number, outcome):
        """Give the game this outcome, whatever its state was."""
        self._check_game(number)
        if outcome not in outcomes_of(self):
            raise BadValue(1)
        self._set_state(number, outcome)

    def call_off(self, number):
        """Call the game off: it counts nothing and will not be played."""
        self._check_game(number)
        self._set_state(number, "off")

    def reopen(self, number):
        """Make the game one that is left."""
        self._check_game(number)
        self._set_state(number, "left")

    def withdraw(self, side):
        """Take the side out for good; all its games are off."""
        self._check_playing(side)
        # In the order of sides, so that leagues do not differ by who withdrew first.
        self._gone = tuple([name for name in self._sides if name == side or name in self._gone])
        self._games = [(home, away, "off" if side in (home, away) else state)
                       for home, away, state in self._games]

    def _check_playing(self, side):
        if side not in self._sides or side in self._gone:
            raise BadSide(side)

    def _check_game(self, number):
        if not is_integer(number) or not 0 <= number < len(self._games):
            raise BadGame(number)
        home, away, state = self._games[number]
        if home in self._gone or away in self._gone:
            raise BadGame(number)

    def _set_state(self, number, state):
        home, away, before = self._games[number]
        self._games[number] = (home, away, state)


def _are_sides(sides):
    return are_names(sides) and FEWEST_SIDES <= len(sides) <= MOST_SIDES


def _is_scheme(scheme):
    if not is_sequence(scheme) or len(scheme) != 3:
        return False
    win, draw, loss = scheme
    if not _is_mark(win) or not _is_mark(loss) or win <= loss:
        return False
    return draw is None or (_is_mark(draw) and loss <= draw <= win)


def _is_mark(value):
    return is_number(value) and value <= MOST_POINTS


def _are_rules(rules):
    # Only when each one is a known rule may they be put into a set: a list may stand there, too.
    if not is_sequence(rules) or not all([rule in RULES for rule in rules]):
        return False
    return len(rules) > 0 and rules[0] == "points" and len(set(rules)) == len(rules)
