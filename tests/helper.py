"""What the tests share: leagues to ask, values of wrong kinds, and a second, slow reckoning.

The second reckoning follows the words of the document one by one, with other means than the
program, so that the two can be compared on many leagues.
"""

import itertools
import random

from stillmay.leagues import League

TRIO = ("ash", "elm", "oak")
EIGHT = ("ash", "elm", "oak", "fir", "yew", "box", "bay", "fig")
WITH_DRAWS = (3, 1, 0)
WITHOUT_DRAWS = (1, None, 0)
PLAIN = ("points", "wins")
OUTCOMES = ("home", "draw", "away")

# Values that are no string at all; each test adds the strings that are wrong in its place.
NO_STRINGS = (None, True, False, 0, 1, -1, 10 ** 30, -10 ** 30, (), [], ("ash",), ["ash"], [["ash"], None])

ALL_RULES = tuple(("points",) + behind for many in range(4)
                  for behind in itertools.permutations(("wins", "away", "among"), many))


def deep(levels):
    """Tuples and lists in each other, so many levels deep."""
    value = "ash"
    for level in range(levels):
        value = (value,) if level % 2 else [value]
    return value


def made(sides=TRIO, scheme=WITH_DRAWS, rules=PLAIN, games=()):
    """A league with these games: triples (home, away, state)."""
    league = League(sides, scheme, rules)
    for home, away, state in games:
        number = league.add_game(home, away)
        if state == "off":
            league.call_off(number)
        elif state != "left":
            league.enter(number, state)
    return league


def with_left(many, sides=EIGHT, scheme=WITH_DRAWS, rules=PLAIN):
    """A league in which so many games are left, and none ended."""
    pairs = list(itertools.permutations(sides, 2))
    return made(sides, scheme, rules, [pair + ("left",) for pair in pairs[:many]])


def drawn_league(seed, most_left=4):
    """Some league, always the same one for a seed: few points, so that many sides are level."""
    dice = random.Random(seed)
    sides = EIGHT[:dice.randint(2, 8)]
    scheme = dice.choice(((3, 1, 0), (2, 1, 0), (1, None, 0), (2, 2, 0), (2, 0, 0), (5, 3, 1), (1, 0, 0)))
    league = League(dice.sample(sides, len(sides)), scheme, dice.choice(ALL_RULES))
    left = dice.randint(0, most_left)
    for _ in range(dice.randint(left, 16)):
        home, away = dice.sample(sides, 2)
        league.add_game(home, away)
    for number in dice.sample(league.left(), len(league.left()) - min(left, len(league.left()))):
        if dice.random() < 0.1:
            league.call_off(number)
        else:
            league.enter(number, dice.choice(outcomes(league)))
    if dice.random() < 0.2:
        league.withdraw(dice.choice(sides))
    return league


def outcomes(league):
    return [outcome for outcome in OUTCOMES if outcome != "draw" or league.scheme()[1] is not None]


def told_points(league, games, side, others):
    """The side's points out of these games against others."""
    win, draw, loss = league.scheme()
    total = 0
    for home, away, state in games:
        if state in ("left", "off") or side not in (home, away):
            continue
        if (away if side == home else home) not in others:
            continue
        if state == "draw":
            total += draw
        else:
            total += win if (state == "home") == (side == home) else loss
    return total


def told_number(league, games, rule, side, lot):
    """What a rule gives a side of this lot."""
    if rule == "points":
        return told_points(league, games, side, league.sides())
    if rule == "wins":
        return sum((home == side and state == "home") or (away == side and state == "away")
                   for home, away, state in games)
    if rule == "away":
        return sum(away == side and state == "away" for home, away, state in games)
    return told_points(league, games, side, lot)


def told_parts(league, games, lot, rules):
    """The lots into which the rules part this lot, best first."""
    if len(lot) == 1 or not rules:
        return [lot]
    numbers = {side: told_number(league, games, rules[0], side, lot) for side in lot}
    if len(set(numbers.values())) == 1:
        return told_parts(league, games, lot, rules[1:])
    parts = []
    for number in sorted(set(numbers.values()), reverse=True):
        level = tuple(side for side in lot if numbers[side] == number)
        parts += told_parts(league, games, level, rules if rules[0] == "among" else rules[1:])
    return parts


def told_order(league, games):
    parts = told_parts(league, games, league.sides(), league.rules())
    return tuple(side for part in parts for side in part)


def told_results(league, side):
    """For each ending, in their order: (ending, place, points)."""
    results = []
    left = league.left()
    for ending in itertools.product(outcomes(league), repeat=len(left)):
        games = list(league.games())
        for number, outcome in zip(left, ending):
            games[number] = games[number][:2] + (outcome,)
        place = told_order(league, games).index(side) + 1
        results.append((ending, place, told_points(league, games, side, league.sides())))
    return results


def caught(call, *args):
    """The error that a call raises, or None."""
    try:
        call(*args)
    except Exception as error:
        return error
    return None


def expect(case, error, attribute, value, call, *args):
    """The call raises just this error, and its attribute is the very thing handed in."""
    found = caught(call, *args)
    case.assertIs(error, found.__class__, (call, args, found))
    kept = getattr(found, attribute)
    if isinstance(value, (list, tuple)):
        case.assertIs(value, kept, (call, args))
    else:
        case.assertEqual((value.__class__, value), (kept.__class__, kept), (call, args))


def snapshot(league):
    """All that may be seen of a league."""
    return league.sides(), league.scheme(), league.rules(), league.games(), league.left(), league.withdrawn()
