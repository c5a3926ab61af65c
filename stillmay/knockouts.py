"""Knockouts: the bracket, where two sides would meet in it, and its rounds as they are played."""

from stillmay.basics import are_names, is_sequence
from stillmay.errors import BadSide, BadValue

# How many sides a bracket may have.
COUNTS = (2, 4, 8)


def draw(sides):
    """The sides, told best first, in their sequence in the bracket."""
    if not are_names(sides) or len(sides) not in COUNTS:
        raise BadValue(0)
    seats = [0, 1]
    while len(seats) < len(sides):
        last = 2 * len(seats) - 1
        seats = [seat for better in seats for seat in (better, last - better)]
    return tuple([sides[seat] for seat in seats])


def rounds_to_meet(sides, one, other):
    """The number of the round, the first being 1, in which the two sides would meet."""
    bracket = draw(sides)
    for side in (one, other):
        if side not in bracket:
            raise BadSide(side)
    if one == other:
        raise BadValue(2)
    first = bracket.index(one)
    second = bracket.index(other)
    number = 0
    # From round to round, two neighbours in the bracket make room for one.
    while first != second:
        first //= 2
        second //= 2
        number += 1
    return number


def play(sides, winners):
    """The rounds as far as they are known, behind the last game one more, of the winner alone."""
    playing = draw(sides)
    if not is_sequence(winners):
        raise BadValue(1)
    untold = tuple(winners)
    rounds = []
    while len(playing) > 1:
        games = _neighbours(playing)
        rounds.append(games)
        won = untold[:len(games)]
        untold = untold[len(games):]
        if not all([winner in game for winner, game in zip(won, games)]):
            raise BadValue(1)
        if len(won) < len(games):
            return tuple(rounds)
        playing = won
    if untold:
        raise BadValue(1)
    rounds.append((playing,))
    return tuple(rounds)


def _neighbours(playing):
    return tuple([(playing[at], playing[at + 1]) for at in range(0, len(playing), 2)])
