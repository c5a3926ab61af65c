"""Cuts: lots of sides that show that a side is out of the first lot."""

from itertools import combinations

from stillmay.basics import MOST_LEFT, check_left, is_sequence, outcomes_of, position
from stillmay.errors import BadValue
from stillmay.tallies import Tally, left_pairs, walked

SCHEME = (1, None, 0)


def cut_against(league, side):
    """The first cut against the side, by size, then by positions in the order of sides, or None."""
    at = _asked(league, side)
    sides = league.sides()
    tally = Tally(league)
    pairs = left_pairs(league)
    others = [other for other in range(len(sides)) if other != at]
    for many in range(1, len(others) + 1):
        for lot in combinations(others, many):
            if _is_cut(tally, pairs, at, lot):
                return tuple([sides[other] for other in lot])
    return None


def cut_holds(league, side, sides):
    """Whether these other sides are a cut against the side."""
    at = _asked(league, side)
    if not _are_others(league, side, sides):
        raise BadValue(2)
    lot = [position(league, other) for other in sides]
    return _is_cut(Tally(league), left_pairs(league), at, lot)


def first_lot_ending(league, side):
    """The first ending in which no other side has more points than this one, or None."""
    at = _asked(league, side)
    check_left(league, MOST_LEFT)
    many = len(league.sides())
    tally = Tally(league)
    pairs = left_pairs(league)
    outcomes = outcomes_of(league)
    for ending in walked(tally, pairs, outcomes, ()):
        if max([tally.points(other) for other in range(many)]) == tally.points(at):
            return ending
    return None


def _asked(league, side):
    """The position of the side, behind the checks that all calls share."""
    at = position(league, side)
    if league.scheme() != SCHEME:
        raise BadValue(0)
    return at


def _are_others(league, side, sides):
    if not is_sequence(sides) or not all([other in league.sides() for other in sides]):
        return False
    return side not in sides and len(set(sides)) == len(sides)


def _is_cut(tally, pairs, at, lot):
    """Whether the points that the lot has, and shares out among itself, are too many for the side."""
    most = tally.points(at) + len([pair for pair in pairs if at in pair])
    have = sum([tally.points(other) for other in lot])
    between = len([home for home, away in pairs if home in lot and away in lot])
    return have + between > len(lot) * most
