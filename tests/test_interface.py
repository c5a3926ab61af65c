"""The interface: names, arguments, and the files in which they are defined."""

import importlib
import inspect
import unittest

INTERFACE = {
    "errors": {
        "LeagueError": None, "BadValue": ("at",), "BadPaper": ("at",), "BadLine": ("at",), "BadGame": ("number",),
        "BadSide": ("name",), "TooMany": ("word",), "NothingThere": ("word",),
    },
    "leagues": {"League": ("sides", "scheme", "rules")},
    "standings": {
        "points": ("league", "side"), "wins": ("league", "side"), "away_wins": ("league", "side"),
        "played": ("league", "side"), "points_among": ("league", "side", "others"), "order": ("league",),
        "place": ("league", "side"), "table": ("league",), "level": ("league",),
    },
    "ways": {
        "ended": ("league", "ending"), "endings_count": ("league",), "best_place": ("league", "side"),
        "worst_place": ("league", "side"), "ending_to": ("league", "side", "place"),
        "ending_below": ("league", "side", "place"), "sure": ("league", "side", "place"),
        "may": ("league", "side", "place"), "needs": ("league", "side", "place"),
        "least_with": ("league", "side", "place"), "deciders": ("league", "side", "place"),
        "enders": ("league", "side", "place"), "scenarios": ("league", "side"),
    },
    "papers": {"never_paper": ("league", "side", "place"), "always_paper": ("league", "side", "place")},
    "checking": {
        "paper_holds": ("league", "side", "place", "claim", "paper"), "pairing_holds": ("order", "met", "paper"),
    },
    "cuts": {
        "cut_against": ("league", "side"), "cut_holds": ("league", "side", "sides"),
        "first_lot_ending": ("league", "side"),
    },
    "pairings": {
        "pairing": ("order", "met"), "barrier": ("order", "met"), "pairing_paper": ("order", "met"),
        "met_in": ("league",), "next_round": ("league",),
    },
    "fixtures": {
        "is_fixtures": ("sides", "rounds"), "drawn_up": ("sides",), "breaks": ("sides", "rounds"),
        "break_count": ("sides", "rounds"), "pattern": ("sides", "rounds", "side"), "returned": ("rounds",),
        "put_in": ("league", "rounds"),
    },
    "knockouts": {
        "draw": ("sides",), "rounds_to_meet": ("sides", "one", "other"), "play": ("sides", "winners"),
    },
    "divisions": {
        "moved": ("upper", "lower", "many"), "sure_up": ("lower", "many"), "may_up": ("lower", "many"),
        "sure_down": ("upper", "many"), "may_down": ("upper", "many"),
    },
    "desk": {
        "Desk": ("sides", "scheme", "rules"), "replayed": ("sides", "scheme", "rules", "log"),
    },
}

METHODS = {
    "League": {
        "sides": (), "scheme": (), "rules": (), "add_game": ("home", "away"), "enter": ("number", "outcome"),
        "call_off": ("number",), "reopen": ("number",), "withdraw": ("side",), "games": (), "left": (),
        "withdrawn": (), "copy": (), "__eq__": None,
    },
    "Desk": {"tell": ("line",), "log": ()},
}
FILES = {"League": "leagues", "Desk": "desk"}


class InterfaceTest(unittest.TestCase):
    def test_functions_and_classes(self):
        for file_name, names in INTERFACE.items():
            module = importlib.import_module("stillmay." + file_name)
            for name, arguments in names.items():
                with self.subTest(file=file_name, name=name):
                    found = getattr(module, name)
                    self.assertEqual(module.__name__, found.__module__)
                    if arguments is not None:
                        self.assertEqual(arguments, tuple(inspect.signature(found).parameters))

    def test_methods(self):
        for class_name, methods in METHODS.items():
            found = getattr(importlib.import_module("stillmay." + FILES[class_name]), class_name)
            for name, arguments in methods.items():
                with self.subTest(of=class_name, name=name):
                    method = vars(found)[name]
                    if arguments is not None:
                        self.assertEqual(("self",) + arguments, tuple(inspect.signature(method).parameters))


if __name__ == "__main__":
    unittest.main()
