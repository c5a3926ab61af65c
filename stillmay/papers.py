"""Papers that a side never reaches a place, or always does: trees that can be checked line by line."""

from stillmay.basics import MOST_LEFT, asked_place
from stillmay.errors import NothingThere
from stillmay.trees import TreeWalk


def never_paper(league, side, place):
    """The tree that the place of the side is worse than this one behind each ending."""
    return _paper(league, side, place, "never")


def always_paper(league, side, place):
    """The tree that the place of the side is this one or better behind each ending."""
    return _paper(league, side, place, "always")


def _paper(league, side, place, claim):
    at = asked_place(league, side, place, MOST_LEFT)
    walk = TreeWalk(league, at, place, claim)
    lines = []
    while not walk.is_whole():
        lines.append(_next_line(walk))
    return "".join(lines)


def _next_line(walk):
    """The line of the due node; the walk goes on to the next one."""
    if walk.is_bound():
        walk.close()
        return "bound\n"
    left = walk.left()
    if left:
        walk.fork(left[0])
        return f"split {left[0]}\n"
    if not walk.is_end():
        raise NothingThere("paper")
    walk.close()
    return "end\n"
