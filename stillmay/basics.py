"""What integers, numbers, names and sequences are, and the checks that many calls share."""

from stillmay.errors import BadSide, BadValue, TooMany

LETTERS = "abcdefghijklmnopqrstuvwxyz"
LONGEST_NAME = 8
FIGURES = "0123456789"
MOST_FIGURES = 9
OUTCOMES = ("home", "draw", "away")
# Where all endings are walked through, no more games than these may be left.
MOST_LEFT = 8


def is_sequence(value):
    """Whether it may stand where a sequence is expected; a string may not."""
    return isinstance(value, (list, tuple))


def is_integer(value):
    """Whether it is an int, but neither True nor False."""
    return isinstance(value, int) and not isinstance(value, bool)


def is_number(value):
    """Whether it is an integer from 0 on."""
    return is_integer(value) and value >= 0


def is_pair(value):
    """Whether it is a sequence of two, whatever these are."""
    return is_sequence(value) and len(value) == 2


def is_word(text):
    """Whether this string is one small letter or more, and nothing else."""
    return text != "" and all([sign in LETTERS for sign in text])


def is_name(value):
    """Whether it is a word of small letters that is not too long."""
    # The length comes first: a long string need not be read.
    return isinstance(value, str) and len(value) <= LONGEST_NAME and is_word(value)


def are_names(values):
    """Whether it is a sequence of names, none of them twice."""
    if not is_sequence(values) or not all([is_name(value) for value in values]):
        return False
    return len(set(values)) == len(values)


def parted_lines(text):
    """The lines of a text that have a line feed, without it, and what stands behind the last line feed."""
    lines = text.split("\n")
    return lines[:-1], lines[-1]


def outcomes_of(league):
    """The outcomes that a game of the league can have, in their order."""
    with_draws = league.scheme()[1] is not None
    return tuple([outcome for outcome in OUTCOMES if with_draws or outcome != "draw"])


def position(league, side):
    """Where the side stands in the order of sides."""
    if side not in league.sides():
        raise BadSide(side)
    return league.sides().index(side)


def check_place(league, place):
    """Raise BadValue(2) for what is no place in the league."""
    if not is_integer(place) or not 1 <= place <= len(league.sides()):
        raise BadValue(2)


def check_left(league, most):
    """Raise TooMany if more games than that are left."""
    if len(league.left()) > most:
        raise TooMany("games")


def asked_place(league, side, place, most):
    """The position of the side, behind the checks of calls that ask for a place with so many games left."""
    at = position(league, side)
    check_place(league, place)
    check_left(league, most)
    return at
