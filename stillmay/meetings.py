"""Who has met whom, whom the first side may still meet, and the barriers against pairing a lot."""

from itertools import combinations

from stillmay.basics import are_names, is_pair, is_sequence
from stillmay.errors import BadValue

# How many sides may be paired.
COUNTS = (2, 4, 6, 8, 10)


def asked_meetings(order, met):
    """Who may not meet again, told both ways round, behind the checks of calls about pairings."""
    if not _is_order(order):
        raise BadValue(0)
    if not is_sequence(met) or not all([_is_meeting(order, pair) for pair in met]):
        raise BadValue(1)
    meetings = {}
    for one, other in met:
        meetings[one, other] = True
        meetings[other, one] = True
    return meetings


def partners(free, meetings):
    """Those of the free sides whom the first one of them has not met."""
    return [side for side in free[1:] if (free[0], side) not in meetings]


def without(free, one, other):
    """The free sides but these two."""
    return [side for side in free if side not in (one, other)]


def is_barrier(lot, chosen, meetings):
    """Whether the lot without those chosen falls into more odd parts than have been chosen."""
    others = [side for side in lot if side not in chosen]
    odd = 0
    while others:
        part = _part_of(others[0], others, meetings)
        odd += len(part) % 2
        others = [side for side in others if side not in part]
    return odd > len(chosen)


def first_barrier(lot, meetings):
    """The first barrier against a list of sides, by size, then by positions; None if there is none."""
    # Half of the lot leaves no more sides than it has itself, let alone more odd parts.
    for many in range(len(lot) // 2):
        for chosen in combinations(lot, many):
            if is_barrier(lot, chosen, meetings):
                return chosen
    return None


def _is_order(order):
    return are_names(order) and len(order) in COUNTS


def _is_meeting(order, pair):
    if not is_pair(pair):
        return False
    return pair[0] in order and pair[1] in order and pair[0] != pair[1]


def _part_of(side, sides, meetings):
    """The sides that are joined with this one, itself among them, by pairs that have not met."""
    part = [side]
    waiting = [side]
    while waiting:
        one = waiting.pop()
        joined = [other for other in sides if other not in part and (one, other) not in meetings]
        part.extend(joined)
        waiting.extend(joined)
    return part
