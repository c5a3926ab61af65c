"""Pairings of sides that have not met, and the barriers and papers that tell why none comes earlier."""

from stillmay.meetings import asked_meetings, first_barrier, partners, without
from stillmay.standings import table


def pairing(order, met):
    """The first pairing of these sides, or None."""
    meetings = asked_meetings(order, met)
    return _first_pairing(list(order), meetings)


def barrier(order, met):
    """The first barrier against these sides, or None."""
    meetings = asked_meetings(order, met)
    return first_barrier(list(order), meetings)


def pairing_paper(order, met):
    """The lines that show which pairing is the first one, or that there is none."""
    meetings = asked_meetings(order, met)
    free = list(order)
    found = _first_pairing(free, meetings)
    if found is None:
        return _line_by("none by", first_barrier(free, meetings))
    lines = []
    for first, second in found:
        lines.extend(_passed_over(free, second, meetings))
        lines.append(f"pair {first} {second}\n")
        free = without(free, first, second)
    return "".join(lines)


def met_in(league):
    """The pairs (home, away) of all games that are not off."""
    return tuple([(home, away) for home, away, state in league.games() if state != "off"])


def next_round(league):
    """The pairing of the sides as they stand, or None, and the side that is left out, or None."""
    gone = league.withdrawn()
    playing = [row[1] for row in table(league) if row[1] not in gone]
    left_out = None
    if len(playing) % 2 == 1:
        left_out = playing.pop()
    if not playing:
        return (), left_out
    met = [(home, away) for home, away in met_in(league) if home in playing and away in playing]
    return pairing(playing, met), left_out


def _first_pairing(free, meetings):
    if not free:
        return ()
    for partner in partners(free, meetings):
        others = _first_pairing(without(free, free[0], partner), meetings)
        if others is not None:
            return ((free[0], partner),) + others
    return None


def _passed_over(free, second, meetings):
    """The lines for those whom the first of the free sides could meet ahead of its partner."""
    lines = []
    for side in partners(free, meetings):
        if side == second:
            break
        chosen = first_barrier(without(free, free[0], side), meetings)
        lines.append(_line_by(f"not {free[0]} {side} by", chosen))
    return lines


def _line_by(head, chosen):
    return " ".join([head, *chosen]) + "\n"
