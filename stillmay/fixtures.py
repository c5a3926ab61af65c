"""Fixtures: rounds in which each two sides meet once, and their breaks of home and away."""

from stillmay.basics import are_names, is_pair, is_sequence
from stillmay.errors import BadSide, BadValue

# How many sides fixtures may have.
COUNTS = (2, 4, 6, 8)


def is_fixtures(sides, rounds):
    """Whether the rounds are fixtures of these sides."""
    _check_sides(sides)
    if not is_sequence(rounds) or not all([_is_full_round(sides, pairs) for pairs in rounds]):
        return False
    met = [pair for pairs in rounds for pair in pairs]
    # Told both ways round: whoever met twice stands there twice.
    both = [(home, away) for home, away in met] + [(away, home) for home, away in met]
    return len(both) == len(set(both)) == len(sides) * (len(sides) - 1)


def drawn_up(sides):
    """Fixtures of these sides with the fewest breaks."""
    _check_sides(sides)
    return tuple([_drawn_round(sides, number) for number in range(len(sides) - 1)])


def breaks(sides, rounds):
    """For each side the numbers of the rounds in which it has a break."""
    _check_fixtures(sides, rounds)
    return tuple([_breaks_in(_pattern(rounds, side)) for side in sides])


def break_count(sides, rounds):
    """How many breaks all sides have together."""
    return sum([len(numbers) for numbers in breaks(sides, rounds)])


def pattern(sides, rounds, side):
    """For each round H if the side is at home in it, otherwise A."""
    _check_fixtures(sides, rounds)
    if side not in sides:
        raise BadSide(side)
    return _pattern(rounds, side)


def returned(rounds):
    """The rounds, then the same ones once more with home and away changed."""
    there = [tuple([(home, away) for home, away in pairs]) for pairs in rounds]
    back = [tuple([(away, home) for home, away in pairs]) for pairs in rounds]
    return tuple(there + back)


def put_in(league, rounds):
    """Add the games of all rounds to the league; their numbers."""
    # First to a copy: if one of them cannot be added, the league gets none.
    _add_games(league.copy(), rounds)
    return _add_games(league, rounds)


def _check_sides(sides):
    if not are_names(sides) or len(sides) not in COUNTS:
        raise BadValue(0)


def _check_fixtures(sides, rounds):
    if not is_fixtures(sides, rounds):
        raise BadValue(1)


def _is_full_round(sides, pairs):
    """Whether each side stands in just one of the pairs, and nobody else in any."""
    if not is_sequence(pairs) or not all([is_pair(pair) for pair in pairs]):
        return False
    playing = [side for pair in pairs for side in pair]
    return len(playing) == len(sides) and all([side in playing for side in sides])


def _drawn_round(sides, number):
    last = len(sides) - 1
    seats = [(last, number) if number % 2 == 0 else (number, last)]
    for step in range(1, len(sides) // 2):
        behind = (number + step) % last
        ahead = (number - step) % last
        seats.append((behind, ahead) if step % 2 == 1 else (ahead, behind))
    return tuple([(sides[home], sides[away]) for home, away in seats])


def _pattern(rounds, side):
    hosts = [[home for home, away in pairs] for pairs in rounds]
    return "".join(["H" if side in lot else "A" for lot in hosts])


def _breaks_in(signs):
    return tuple([number for number in range(1, len(signs)) if signs[number] == signs[number - 1]])


def _add_games(league, rounds):
    if not is_sequence(rounds):
        raise BadValue(1)
    numbers = []
    for pairs in rounds:
        if not is_sequence(pairs):
            raise BadValue(1)
        for pair in pairs:
            if not is_pair(pair):
                raise BadValue(1)
            numbers.append(league.add_game(pair[0], pair[1]))
    return tuple(numbers)
