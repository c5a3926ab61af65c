"""Ways of ending: what a side still may reach, and what it needs for it."""

from stillmay.basics import MOST_LEFT, asked_place, check_left, is_sequence, outcomes_of, position
from stillmay.errors import BadValue
from stillmay.tallies import Tally, left_pairs, walked

MOST_LEFT_FOR_PAIRS = 6


def ended(league, ending):
    """The league in which the outcomes of this ending are entered."""
    if not _is_ending(league, ending):
        raise BadValue(1)
    done = league.copy()
    for number, outcome in zip(league.left(), ending):
        done.enter(number, outcome)
    return done


def endings_count(league):
    """How many endings there are."""
    many = 1
    for _ in league.left():
        many *= len(outcomes_of(league))
    return many


def best_place(league, side):
    """The least place of the side over all endings."""
    at = _asked(league, side)
    return min([found for ending, found, gained in _results(league, at)])


def worst_place(league, side):
    """The greatest place of the side over all endings."""
    at = _asked(league, side)
    return max([found for ending, found, gained in _results(league, at)])


def ending_to(league, side, place):
    """The first ending behind which the place is this one or better, or None."""
    at = asked_place(league, side, place, MOST_LEFT)
    for ending, found, gained in _results(league, at):
        if found <= place:
            return ending
    return None


def ending_below(league, side, place):
    """The first ending behind which the place is worse than this one, or None."""
    at = asked_place(league, side, place, MOST_LEFT)
    for ending, found, gained in _results(league, at):
        if found > place:
            return ending
    return None


def sure(league, side, place):
    """Whether the place is this one or better behind each ending."""
    return ending_below(league, side, place) is None


def may(league, side, place):
    """Whether the place is this one or better behind some ending."""
    return ending_to(league, side, place) is not None


def needs(league, side, place):
    """The least number of points, of those that it may have, with which the place is sure, or None."""
    at = asked_place(league, side, place, MOST_LEFT)
    reachable = []
    # The most points that were once not enough; as yet none were.
    short = -1
    for ending, found, gained in _results(league, at):
        reachable.append(gained)
        if found > place:
            short = max(short, gained)
    return min([enough for enough in reachable if enough > short], default=None)


def least_with(league, side, place):
    """The least number of points that it has behind some ending that gives the place, or None."""
    at = asked_place(league, side, place, MOST_LEFT)
    return min([gained for ending, found, gained in _results(league, at) if found <= place],
               default=None)


def deciders(league, side, place):
    """The pairs (game, outcome) that make the place sure, if it is not sure as it stands."""
    at = asked_place(league, side, place, MOST_LEFT_FOR_PAIRS)
    return _pairs_in_none(league, [ending for ending, found, gained in _results(league, at)
                                   if found > place])


def enders(league, side, place):
    """The pairs (game, outcome) with which the place may not come any more, if it still may."""
    at = asked_place(league, side, place, MOST_LEFT_FOR_PAIRS)
    return _pairs_in_none(league, [ending for ending, found, gained in _results(league, at)
                                   if found <= place])


def scenarios(league, side):
    """For each place, from 1 on, behind how many endings the side has it."""
    at = _asked(league, side)
    counts = [0] * len(league.sides())
    for ending, found, gained in _results(league, at):
        counts[found - 1] += 1
    return tuple(counts)


def _is_ending(league, ending):
    if not is_sequence(ending) or len(ending) != len(league.left()):
        return False
    outcomes = outcomes_of(league)
    return all([outcome in outcomes for outcome in ending])


def _asked(league, side):
    """The position of the side, behind the checks of calls that ask for no place."""
    at = position(league, side)
    check_left(league, MOST_LEFT)
    return at


def _results(league, at):
    """Behind each ending, in their order: the ending, the place of the side, its points."""
    tally = Tally(league)
    pairs = left_pairs(league)
    outcomes = outcomes_of(league)
    for ending in walked(tally, pairs, outcomes, ()):
        yield ending, tally.place(at), tally.points(at)


def _pairs_in_none(league, endings):
    """The pairs of a game that is left and an outcome that stand in none of these endings.

    Without endings there are no pairs: then the place is sure already, or may not come anyhow.
    """
    if not endings:
        return ()
    seen = {(step, outcome) for ending in endings for step, outcome in enumerate(ending)}
    return tuple([(number, outcome) for step, number in enumerate(league.left())
                  for outcome in outcomes_of(league) if (step, outcome) not in seen])
