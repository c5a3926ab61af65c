"""What the tests share: leagues to ask, values of wrong kinds, and a second, slow reckoning.

The second reckoning follows the words of the document one by one, with other means than the
program, so that the two can be compared on many leagues.
"""

import itertools
import random
import re
import sys

from stillmay.leagues import League

TRIO = ("ash", "elm", "oak")
EIGHT = ("ash", "elm", "oak", "fir", "yew", "box", "bay", "fig")
TEN = EIGHT + ("pine", "a")
WITH_DRAWS = (3, 1, 0)
WITHOUT_DRAWS = (1, None, 0)
PLAIN = ("points", "wins")
OUTCOMES = ("home", "draw", "away")

# Values that are no string at all; each test adds the strings that are wrong in its place.
NO_STRINGS = (None, True, False, 0, 1, -1, 10 ** 30, -10 ** 30, (), [], ("ash",), ["ash"], [["ash"], None])

ALL_RULES = tuple(("points",) + behind for many in range(4)
                  for behind in itertools.permutations(("wins", "away", "among"), many))


def deep(levels):
    """Tuples and lists in each other, so many levels deep."""
    value = "ash"
    for level in range(levels):
        value = (value,) if level % 2 else [value]
    return value


def as_lists(value):
    """The same with lists in the place of all tuples."""
    return [as_lists(part) for part in value] if isinstance(value, tuple) else value


def made(sides=TRIO, scheme=WITH_DRAWS, rules=PLAIN, games=()):
    """A league with these games: triples (home, away, state)."""
    league = League(sides, scheme, rules)
    for home, away, state in games:
        number = league.add_game(home, away)
        if state == "off":
            league.call_off(number)
        elif state != "left":
            league.enter(number, state)
    return league


def with_left(many, sides=EIGHT, scheme=WITH_DRAWS, rules=PLAIN):
    """A league in which so many games are left, and none ended."""
    pairs = list(itertools.permutations(sides, 2))
    return made(sides, scheme, rules, [pair + ("left",) for pair in pairs[:many]])


def drawn_league(seed, most_left=4, scheme=None):
    """Some league, always the same one for a seed: few points, so that many sides are level."""
    dice = random.Random(seed)
    sides = EIGHT[:dice.randint(2, 8)]
    drawn = dice.choice(((3, 1, 0), (2, 1, 0), (1, None, 0), (2, 2, 0), (2, 0, 0), (5, 3, 1), (1, 0, 0)))
    league = League(dice.sample(sides, len(sides)), scheme or drawn, dice.choice(ALL_RULES))
    left = dice.randint(0, most_left)
    for _ in range(dice.randint(left, 16)):
        home, away = dice.sample(sides, 2)
        league.add_game(home, away)
    for number in dice.sample(league.left(), len(league.left()) - min(left, len(league.left()))):
        if dice.random() < 0.1:
            league.call_off(number)
        else:
            league.enter(number, dice.choice(outcomes(league)))
    if dice.random() < 0.2:
        league.withdraw(dice.choice(sides))
    return league


def outcomes(league):
    return [outcome for outcome in OUTCOMES if outcome != "draw" or league.scheme()[1] is not None]


def told_points(league, games, side, others):
    """The side's points out of these games against others."""
    win, draw, loss = league.scheme()
    total = 0
    for home, away, state in games:
        if state in ("left", "off") or side not in (home, away):
            continue
        if (away if side == home else home) not in others:
            continue
        if state == "draw":
            total += draw
        else:
            total += win if (state == "home") == (side == home) else loss
    return total


def told_number(league, games, rule, side, lot):
    """What a rule gives a side of this lot."""
    if rule == "points":
        return told_points(league, games, side, league.sides())
    if rule == "wins":
        return sum((home == side and state == "home") or (away == side and state == "away")
                   for home, away, state in games)
    if rule == "away":
        return sum(away == side and state == "away" for home, away, state in games)
    return told_points(league, games, side, lot)


def told_parts(league, games, lot, rules):
    """The lots into which the rules part this lot, best first."""
    if len(lot) == 1 or not rules:
        return [lot]
    numbers = {side: told_number(league, games, rules[0], side, lot) for side in lot}
    if len(set(numbers.values())) == 1:
        return told_parts(league, games, lot, rules[1:])
    parts = []
    for number in sorted(set(numbers.values()), reverse=True):
        level = tuple(side for side in lot if numbers[side] == number)
        parts += told_parts(league, games, level, rules if rules[0] == "among" else rules[1:])
    return parts


def told_order(league, games):
    parts = told_parts(league, games, league.sides(), league.rules())
    return tuple(side for part in parts for side in part)


def told_results(league, side):
    """For each ending, in their order: (ending, place, points)."""
    results = []
    left = league.left()
    for ending in itertools.product(outcomes(league), repeat=len(left)):
        games = list(league.games())
        for number, outcome in zip(left, ending):
            games[number] = games[number][:2] + (outcome,)
        place = told_order(league, games).index(side) + 1
        results.append((ending, place, told_points(league, games, side, league.sides())))
    return results


def with_state(games, number, state):
    """The games, one of them in another state."""
    return games[:number] + (games[number][:2] + (state,),) + games[number + 1:]


def told_bound(league, games, side, place, claim):
    """Whether point [15] gives the claim for these games."""
    def at_most(one):
        done = [(home, away, ("home" if one == home else "away") if state == "left" else state)
                for home, away, state in games]
        return told_points(league, done, one, league.sides())

    def at_least(one):
        done = [(home, away, ("away" if one == home else "home") if state == "left" else state)
                for home, away, state in games]
        return told_points(league, done, one, league.sides())

    if claim == "never":
        return sum(at_least(other) > at_most(side) for other in league.sides()) >= place
    return sum(at_least(side) > at_most(other) for other in league.sides()) >= len(league.sides()) - place


def told_end(league, games, side, place, claim):
    """Whether no game is left and the standings give the claim."""
    if any(state == "left" for home, away, state in games):
        return False
    return (told_order(league, games).index(side) < place) == (claim == "always")


def told_left(games):
    return [number for number, game in enumerate(games) if game[2] == "left"]


def told_tree(league, games, side, place, claim):
    """The lines of the tree of point [17], or None if the claim is not so."""
    if told_bound(league, games, side, place, claim):
        return ["bound"]
    left = told_left(games)
    if not left:
        return ["end"] if told_end(league, games, side, place, claim) else None
    lines = [f"split {left[0]}"]
    for outcome in outcomes(league):
        below = told_tree(league, with_state(games, left[0], outcome), side, place, claim)
        if below is None:
            return None
        lines += below
    return lines


def as_text(lines):
    return "".join(line + "\n" for line in lines)


def told_lines(paper):
    """The lines of a text with their line feeds; the last one may be without."""
    return re.findall(r"[^\n]*\n|[^\n]+", paper)


def spoilt_papers(lines, words, dice):
    """Papers that are like this one, some of them right themselves."""
    for at in range(len(lines) + 1):
        head, behind = lines[:at], lines[at:]
        yield as_text(head)
        for word in words:
            yield as_text(head + [word] + behind)
            yield as_text(head + [word] + behind[1:])
        if not behind:
            continue
        yield as_text(head + behind[:1] + behind)
        yield as_text(head + behind[1:])
        yield as_text(head) + behind[0]
        yield as_text(head) + "".join(behind)
        for line in spoilt_lines(behind[0], dice):
            yield as_text(head + [line] + behind[1:])
        other = dice.randrange(len(lines))
        swapped = list(lines)
        swapped[at], swapped[other] = swapped[other], swapped[at]
        yield as_text(swapped)


def spoilt_lines(line, dice):
    """Lines that are like this one and of another form."""
    at = dice.randrange(len(line))
    return (line + " ", " " + line, line.replace(" ", "  "), line.replace(" ", ""), line.replace(" ", "\t"), "",
            line.upper(), line + "\r", "\r" + line, line[:at] + line[at + 1:], line[:at] + "x" + line[at:],
            line[:at] + line[at] + line[at:], line + "\x0b", line + "\u2028", line.replace(" ", "\xa0"),
            line.replace(" ", " 0"), line.replace(" ", " +"), line.replace(" ", " -"), line + "\x00")


def all_pairings(sides):
    """Each way to pair the sides, whoever has met."""
    if not sides:
        return [()]
    return [((sides[0], sides[at]),) + others for at in range(1, len(sides))
            for others in all_pairings(sides[1:at] + sides[at + 1:])]


def told_pairing(order, met):
    """The first pairing, out of all of them."""
    barred = {frozenset(pair) for pair in met}
    found = [pairs for pairs in all_pairings(tuple(order)) if not any(frozenset(pair) in barred for pair in pairs)]
    # Pairs and first ones stand in the told order, so the sequence of partners tells which is nearer.
    return min(found, key=lambda pairs: [order.index(side) for pair in pairs for side in pair], default=None)


def told_is_barrier(lot, chosen, met):
    """Whether these sides of the lot are a barrier against it."""
    barred = {frozenset(pair) for pair in met}
    others = [side for side in lot if side not in chosen]
    part = {side: {side} for side in others}
    for one, other in itertools.combinations(others, 2):
        if frozenset((one, other)) not in barred:
            joined = part[one] | part[other]
            for side in joined:
                part[side] = joined
    return len({min(sides) for sides in part.values() if len(sides) % 2 == 1}) > len(chosen)


def told_barrier(lot, met):
    """The first barrier, out of all lots."""
    for many in range(len(lot) + 1):
        for chosen in itertools.combinations(lot, many):
            if told_is_barrier(lot, chosen, met):
                return chosen
    return None


def drawn_order(seed):
    """Some order of sides and some of their pairs, always the same ones for a seed."""
    dice = random.Random(seed)
    order = dice.sample(TEN, 2 * dice.randint(1, 5))
    # These have met fewer of the others, so that barriers of some sides come.
    few = dice.sample(order, dice.randint(0, len(order) // 2))
    met = [dice.choice((pair, pair[::-1], list(pair))) for pair in itertools.combinations(order, 2)
           if dice.random() < seed % 11 / (40 if set(pair) & set(few) else 10 - len(few))]
    met += dice.choices(met, k=2) if met else []
    dice.shuffle(met)
    return order, met


def caught(call, *args):
    """The error that a call raises, or None."""
    try:
        call(*args)
    except Exception as error:
        return error
    return None


def expect(case, error, attribute, value, call, *args):
    """The call raises just this error, and its attribute is the very thing handed in."""
    found = caught(call, *args)
    case.assertIs(error, found.__class__, (call, args, found))
    kept = getattr(found, attribute)
    if isinstance(value, (list, tuple)):
        case.assertIs(value, kept, (call, args))
    else:
        case.assertEqual((value.__class__, value), (kept.__class__, kept), (call, args))


def snapshot(league):
    """All that may be seen of a league."""
    return league.sides(), league.scheme(), league.rules(), league.games(), league.left(), league.withdrawn()


def nested_calls():
    """How many calls stand in each other here."""
    frame, many = sys._getframe(), 0
    while frame is not None:
        frame, many = frame.f_back, many + 1
    return many
