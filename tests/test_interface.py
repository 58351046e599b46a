"""All names that the document lists, where it lists them."""
import importlib
import inspect
import unittest

# how many arguments by their places, and those behind a star
NAMES = {
    "sayings": {"is_saying": 1, "sorts_of": 1, "simples": 1},
    "truths": {"is_counts": 2, "total": 2, "is_true": 2, "by_words": 2},
    "sizes": {"size_of": 1, "says": 2},
    "states": {"is_state": 2, "fresh": 2, "word_of": 2},
    "meetings": {"meet": 3, "is_shift": 3},
    "crowds": {"is_crowd": 2, "crowd_of": 2, "counts_of": 2, "notes_in": 1, "words_in": 2},
    "rounds": {"done": 3, "shifts": 2},
    "comings": {"joined": (3, "many"), "left": (3, "many"), "turned": (4, "many")},
    "sums": {"sums": 2, "is_sound": 2},
    "measures": {"measures": 2, "measure": 2},
    "calm": {"stirs": 2, "is_calm": 2},
    "endings": {"ending": 2, "looks_ended": 3},
    "settling": {"settling": 2},
    "tables": {"is_table": 1, "first_crowd": 2, "table_done": 3, "table_stirs": 2},
    "making": {"holds_made": 1, "made": 1},
    "ends": {"reached": 2, "ends": 2},
    "sayers": {"says_at": 3, "least_wrong": 3},
    "layers": {"shows_layers": 2},
    "layering": {"layers_made": 1, "resting": 3},
    "houses": {"House": (1, "most")},
    "showing": {"show_saying": 1, "show_state": 1, "show_crowd": 1},
    "reading": {"read_saying": 1, "read_state": 2, "read_crowd": 2},
    "desk": {"Desk": 1},
}


class InterfaceTest(unittest.TestCase):
    def test_each_name_with_its_arguments(self):
        for module, names in NAMES.items():
            found = importlib.import_module(f"strangersay.{module}")
            for name, wanted in names.items():
                with self.subTest(f"{module}.{name}"):
                    told = getattr(found, name)
                    self.assertEqual(told.__module__, found.__name__)
                    parts = inspect.signature(told).parameters.values()
                    placed = sum(part.kind == part.POSITIONAL_OR_KEYWORD for part in parts)
                    starred = tuple(part.name for part in parts if part.kind == part.KEYWORD_ONLY)
                    self.assertEqual((placed, *starred), wanted if isinstance(wanted, tuple) else (wanted,))

    def test_what_the_desk_has(self):
        desk = importlib.import_module("strangersay.desk").Desk
        self.assertEqual(list(inspect.signature(vars(desk)["say"]).parameters), ["self", "line"])


if __name__ == "__main__":
    unittest.main()
