"""Standings: what the sides have, and in which order they stand."""

from stillmay.basics import is_sequence, position
from stillmay.errors import BadSide
from stillmay.tallies import Tally


def points(league, side):
    """The points of the side out of its ended games."""
    at = position(league, side)
    return Tally(league).points(at)


def wins(league, side):
    """How many games the side won."""
    at = position(league, side)
    return Tally(league).wins(at)


def away_wins(league, side):
    """How many games the side won that were the other side's home games."""
    at = position(league, side)
    return Tally(league).away_wins(at)


def played(league, side):
    """How many games of the side are ended."""
    at = position(league, side)
    return Tally(league).played(at)


def points_among(league, side, others):
    """The points of the side out of its ended games against these others."""
    at = position(league, side)
    if not is_sequence(others):
        raise BadSide(others)
    seats = [position(league, other) for other in others]
    # A side that stands twice counts once.
    return Tally(league).points_among(at, sorted(set(seats)))


def order(league):
    """The sides, best first."""
    sides = league.sides()
    return tuple([sides[at] for at in Tally(league).order()])


def place(league, side):
    """The place of the side in the order, the first one being 1."""
    at = position(league, side)
    return Tally(league).place(at)


def table(league):
    """In their order, for each side its place, its name, games played, games won, and points."""
    sides = league.sides()
    tally = Tally(league)
    return tuple([(ahead + 1, sides[at], tally.played(at), tally.wins(at), tally.points(at))
                  for ahead, at in enumerate(tally.order())])


def level(league):
    """The lots of two sides or more that no rule parts, in the sequence in which they stand."""
    sides = league.sides()
    tally = Tally(league)
    lots = []
    for at in tally.order():
        lot = tally.lot_of(at)[1]
        # Each lot is told once, where its first side stands.
        if len(lot) > 1 and lot[0] == at:
            lots.append(tuple([sides[other] for other in lot]))
    return tuple(lots)
