import importlib
import inspect
import unittest

NAMES = {
    "boards": {"board_of": "many lines", "grid": "wide high", "parts": "board"},
    "rows": {
        "is_stand": "board thing", "patch": "board stand point", "rows": "board stand", "lands": "board stand",
        "breaths": "board stand row", "sides": "board stand land", "is_sound": "board stand",
    },
    "lays": {"laid": "board stand hand point"},
    "games": {"Game": "board rule stand hand"},
    "counts": {"by_stones": "board stand", "by_land": "game"},
    "safety": {
        "closes": "board stand hand", "safe": "board stand hand", "holds": "board stand hand paper",
        "taking": "board stand point",
    },
    "chases": {"chase": "board stand hunter point most"},
    "ends": {"worked": "board stand hand deeds", "raced": "board stand hand one other deeds"},
    "names": {
        "named_board": "board order", "named_stand": "stand order", "named_points": "some order", "exchanged": "stand",
    },
    "texts": {"show_game": "game", "read_game": "text"},
    "desk": {"Desk": "text"},
    "errors": {"Again": "number", "NoText": "line"},
}
METHODS = {
    ("games", "Game"): {
        "deed": "what", "back": "", "stand": "", "hand": "", "stands": "", "deeds": "", "open_deeds": "",
        "lost": "hand", "ended": "", "board": "", "rule": "", "begin": "",
    },
    ("desk", "Desk"): {"say": "row"},
}


class InterfaceTest(unittest.TestCase):
    """Each name of the document's interface is in its module, with its arguments as they are called there."""

    def test_names(self):
        for module, names in NAMES.items():
            for name, arguments in names.items():
                thing = getattr(importlib.import_module(f"stonebreath.{module}"), name)
                self.assertEqual(list(inspect.signature(thing).parameters), arguments.split(), name)

    def test_methods(self):
        for (module, name), methods in METHODS.items():
            kind = getattr(importlib.import_module(f"stonebreath.{module}"), name)
            for method, arguments in methods.items():
                parameters = list(inspect.signature(getattr(kind, method)).parameters)
                self.assertEqual(parameters[1:], arguments.split(), method)


if __name__ == "__main__":
    unittest.main()
