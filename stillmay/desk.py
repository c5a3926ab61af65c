"""The desk: a league that is kept and asked by lines of text, whose acts may be undone."""

from stillmay.basics import FIGURES, MOST_FIGURES, is_word, parted_lines
from stillmay.errors import BadGame, BadLine, BadSide, BadValue, NothingThere, TooMany
from stillmay.leagues import League
from stillmay.pairings import next_round
from stillmay.standings import table
from stillmay.ways import best_place, deciders, may, needs, sure, worst_place

# What stands behind the first word of a line.
FORMS = {
    "game": ("HOME", "AWAY"),
    "enter": ("N", "OUTCOME"),
    "off": ("N",),
    "reopen": ("N",),
    "withdraw": ("SIDE",),
    "undo": (),
    "table": (),
    "left": (),
    "places": ("SIDE",),
    "sure": ("SIDE", "PLACE"),
    "may": ("SIDE", "PLACE"),
    "needs": ("SIDE", "PLACE"),
    "deciders": ("SIDE", "PLACE"),
    "round": (),
}
# Those of them that are numbers; the others are words of small letters.
NUMBERS = ("N", "PLACE")


def replayed(sides, scheme, rules, log):
    """A desk on which the lines of the log were told."""
    desk = Desk(sides, scheme, rules)
    if not isinstance(log, str):
        raise BadLine(0)
    lines, unended = parted_lines(log)
    for number, line in enumerate(lines):
        try:
            desk.tell(line)
        except BadLine:
            raise BadLine(number) from None
    if unended != "":
        raise BadLine(len(lines))
    return desk


def _read(line):
    """The first word of a line, and what stands behind it, numbers as integers."""
    if not isinstance(line, str):
        raise BadLine(0)
    words = line.split(" ")
    if words[0] not in FORMS:
        raise BadLine(0)
    form = FORMS[words[0]]
    given = words[1:]
    if len(given) != len(form) or not all([_fits(part, word) for part, word in zip(form, given)]):
        raise BadLine(0)
    return words[0], [int(word) if part in NUMBERS else word for part, word in zip(form, given)]


def _fits(part, word):
    if part in NUMBERS:
        return _is_numeral(word)
    return is_word(word)


def _is_numeral(word):
    """Whether it is a number in figures, without noughts ahead."""
    if not 1 <= len(word) <= MOST_FIGURES or not all([sign in FIGURES for sign in word]):
        return False
    return word == "0" or word[0] != "0"


def _add_game(league, home, away):
    return str(league.add_game(home, away))


def _enter(league, number, outcome):
    league.enter(number, outcome)
    return "ok"


def _call_off(league, number):
    league.call_off(number)
    return "ok"


def _reopen(league, number):
    league.reopen(number)
    return "ok"


def _withdraw(league, side):
    league.withdraw(side)
    return "ok"


def _table(league):
    return "; ".join([" ".join([str(part) for part in row]) for row in table(league)])


def _left(league):
    return " ".join([str(number) for number in league.left()])


def _places(league, side):
    return f"{best_place(league, side)} {worst_place(league, side)}"


def _sure(league, side, place):
    return "yes" if sure(league, side, place) else "no"


def _may(league, side, place):
    return "yes" if may(league, side, place) else "no"


def _needs(league, side, place):
    due = needs(league, side, place)
    return "none" if due is None else str(due)


def _deciders(league, side, place):
    return "; ".join([f"{number} {outcome}" for number, outcome in deciders(league, side, place)])


def _round(league):
    pairs, left_out = next_round(league)
    if pairs is None:
        return "none"
    parts = [f"{one} {other}" for one, other in pairs]
    if left_out is not None:
        parts.append(f"out {left_out}")
    return "; ".join(parts)


# What each line does to a league, and what it asks of one.
ACTS = {"game": _add_game, "enter": _enter, "off": _call_off, "reopen": _reopen, "withdraw": _withdraw}
QUESTIONS = {"table": _table, "left": _left, "places": _places, "sure": _sure, "may": _may, "needs": _needs,
             "deciders": _deciders, "round": _round}


class Desk:
    """Keeps a league: takes lines, answers them, and remembers them."""

    def __init__(self, sides, scheme, rules):
        self._league = League(sides, scheme, rules)
        # The league as it was ahead of each act that is not undone yet.
        self._before = []
        self._lines = []

    def tell(self, line):
        """The answer to the line."""
        word, given = _read(line)
        answer = self._answer(word, given)
        self._lines.append(line)
        return answer

    def log(self):
        """The lines that were answered, each with a line feed."""
        return "".join([f"{line}\n" for line in self._lines])

    def _answer(self, word, given):
        try:
            return self._answer_if_right(word, given)
        except BadValue:
            return "no BadValue"
        except BadGame:
            return "no BadGame"
        except BadSide:
            return "no BadSide"
        except TooMany:
            return "no TooMany"
        except NothingThere:
            return "no NothingThere"

    def _answer_if_right(self, word, given):
        if word == "undo":
            return self._undo()
        if word in ACTS:
            return self._act(word, given)
        ask = QUESTIONS[word]
        return ask(self._league, *given)

    def _act(self, word, given):
        act = ACTS[word]
        # The act is done to a copy: so the league ahead of it is kept, and an act that raises changes nothing.
        league = self._league.copy()
        answer = act(league, *given)
        self._before.append(self._league)
        self._league = league
        return answer

    def _undo(self):
        if not self._before:
            raise NothingThere("undo")
        self._league = self._before.pop()
        return "ok"
