"""The errors of the package, each with what it is about."""


class LeagueError(Exception):
    """The base class of all errors of the package."""


class BadValue(LeagueError):
    """An argument of the call is wrong; at tells which one, from 0 on, self not counted."""

    def __init__(self, at):
        self.at = at


class BadGame(LeagueError):
    """No game has this number, or it is not one for which the call is meant."""

    def __init__(self, number):
        self.number = number


class BadSide(LeagueError):
    """No side of the league has this name, or it is not one for which the call is meant."""

    def __init__(self, name):
        self.name = name


class BadPaper(LeagueError):
    """A line of the paper is wrong; at tells its number, from 0 on."""

    def __init__(self, at):
        self.at = at


class BadLine(LeagueError):
    """A line that was told is wrong; at tells its number, from 0 on."""

    def __init__(self, at):
        self.at = at


class TooMany(LeagueError):
    """There are more than there may be of what the word tells."""

    def __init__(self, word):
        self.word = word


class NothingThere(LeagueError):
    """There is nothing of what the word tells."""

    def __init__(self, word):
        self.word = word
