"""Divisions: who moves between an upper and a lower league, and who is sure to, or still may."""

from stillmay.basics import is_number
from stillmay.errors import BadValue
from stillmay.standings import order
from stillmay.ways import best_place, worst_place


def moved(upper, lower, many):
    """The sides of the new upper league and those of the new lower one."""
    if any([side in upper.sides() for side in lower.sides()]):
        raise BadValue(1)
    if not _may_move(upper, many) or not _may_move(lower, many):
        raise BadValue(2)
    above = order(upper)
    below = order(lower)
    kept = len(above) - many
    return above[:kept] + below[:many], above[kept:] + below[many:]


def sure_up(lower, many):
    """The sides whose place is many or better behind each ending."""
    _check_many(lower, many)
    return tuple([side for side in lower.sides() if worst_place(lower, side) <= many])


def may_up(lower, many):
    """The sides whose place is many or better behind some ending."""
    _check_many(lower, many)
    return tuple([side for side in lower.sides() if best_place(lower, side) <= many])


def sure_down(upper, many):
    """The sides that are among the last many behind each ending."""
    _check_many(upper, many)
    kept = len(upper.sides()) - many
    return tuple([side for side in upper.sides() if best_place(upper, side) > kept])


def may_down(upper, many):
    """The sides that are among the last many behind some ending."""
    _check_many(upper, many)
    kept = len(upper.sides()) - many
    return tuple([side for side in upper.sides() if worst_place(upper, side) > kept])


def _may_move(league, many):
    return is_number(many) and many < len(league.sides())


def _check_many(league, many):
    if not _may_move(league, many):
        raise BadValue(1)
