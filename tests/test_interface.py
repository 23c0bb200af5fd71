import ast
import importlib
import inspect
import pathlib
import unittest

ROOT = pathlib.Path(__file__).resolve().parent.parent

# Each file of the interface, its functions and their arguments.
FUNCTIONS = {
    "fractions": {
        "is_fraction": ["thing"], "fraction": ["top", "bottom"], "plus": ["one", "other"], "less": ["one", "other"],
        "times": ["one", "other"], "by": ["one", "other"], "is_less": ["one", "other"], "root_of": ["one"],
    },
    "haps": {"is_hap": ["thing"]},
    "texts": {"fraction_text": ["one"], "haps_text": ["haps"], "fraction_read": ["text"], "haps_read": ["text"]},
    "speeds": {
        "is_speed": ["thing"], "together": ["one", "other"], "taken": ["one", "other"], "many_times": ["speed", "often"],
        "times_to_pass": ["speed", "other"], "is_plain": ["speed"], "beat_of": ["speed"], "stretch_of": ["speed"],
        "speed_of": ["stretch"], "plain_between": ["one", "other"],
    },
    "seats": {
        "is_seat": ["thing"], "told_from": ["seat", "hap"], "turned_back": ["seat", "told"], "seat_from": ["seat", "other"],
        "seat_by": ["seat", "told"], "hap_by_clock": ["seat", "time"], "clock_at": ["seat", "time"],
        "place_at": ["seat", "time"], "meeting": ["one", "other"],
    },
    "rods": {
        "is_rod": ["thing"], "rod_from": ["rod", "speed"], "length_from": ["rod", "speed"], "own_length": ["rod"],
        "is_no_longer": ["rod", "other", "speed"], "like_speed": ["rod", "other"], "within": ["rod", "gate"],
        "gate_haps": ["rod", "gate"],
    },
    "orders": {
        "kind_of": ["one", "other"], "even_speed": ["one", "other"], "order_at": ["haps", "speed"], "turns": ["haps"],
        "orders": ["haps"], "speed_for": ["haps", "order"], "none_for": ["haps", "order"],
        "shows_none": ["haps", "order", "thing"],
    },
    "chains": {
        "reached": ["haps"], "between": ["haps", "i", "j"], "is_chain": ["haps", "thing"], "longest_chain": ["haps"],
        "fewest_chains": ["haps"], "shows_fewest": ["haps", "thing"], "steps_of": ["haps"],
    },
    "ways": {
        "own_square": ["one", "other"], "own_time": ["one", "other"], "own_along": ["way"],
        "most_way": ["haps", "start", "end"], "least_way": ["haps", "start", "end"], "marks_for": ["haps", "start", "end"],
        "shows_most": ["haps", "start", "end", "own", "thing"],
    },
    "flashes": {
        "comes_at": ["seat", "hap"], "sent_at": ["seat", "hap"], "hap_by_flashes": ["seat", "sent", "come", "way"],
        "beats_come": ["one", "other", "time", "gap", "many"], "stretch_between": ["one", "other"],
        "bounces": ["one", "other", "time", "many"],
    },
}
CLASSES = {
    "errors": [
        "MotionError", "NoFraction", "NoHap", "NoText", "NoSpeed", "TooMany", "NotPlain", "NoStretch", "NoHaps",
        "NoOrder", "NoStep", "NoNumber", "NoSeat", "NoRod", "NoWay", "NoFlash", "NoName", "NoDeed", "NoRow",
    ],
    "bench": ["Bench"],
    "desk": ["Desk"],
}
# Each class with methods, and their arguments behind the object itself.
METHODS = {
    ("bench", "Bench"): {
        "put": ["name", "hap"], "drop": ["name"], "turn": ["speed"], "push": ["speed"], "undo": [], "names": [],
        "speed": [], "tell": ["name"], "order": [], "kind": ["one", "other"],
    },
    ("desk", "Desk"): {"say": ["row"]},
}


def defined(file, kind):
    """The names that a file of the package defines itself, by def or by class."""
    tree = ast.parse((ROOT / "seatclocks" / (file + ".py")).read_text())
    return [node.name for node in tree.body if isinstance(node, kind)]


class Interface(unittest.TestCase):
    def test_functions_are_defined_in_their_files(self):
        for file, functions in FUNCTIONS.items():
            self.assertEqual([name for name in functions if name not in defined(file, ast.FunctionDef)], [])

    def test_classes_are_defined_in_their_files(self):
        for file, classes in CLASSES.items():
            self.assertEqual([name for name in classes if name not in defined(file, ast.ClassDef)], [])

    def test_arguments(self):
        for file, functions in FUNCTIONS.items():
            module = importlib.import_module("seatclocks." + file)
            for name, arguments in functions.items():
                taken = inspect.signature(getattr(module, name)).parameters
                self.assertEqual(list(taken), arguments, name)

    def test_methods_are_defined_in_their_classes(self):
        for (file, name), methods in METHODS.items():
            made = getattr(importlib.import_module("seatclocks." + file), name)
            self.assertEqual(list(inspect.signature(made).parameters), [])
            for method, arguments in methods.items():
                self.assertIn(method, vars(made))
                self.assertEqual(list(inspect.signature(getattr(made(), method)).parameters), arguments, method)


if __name__ == "__main__":
    unittest.main()
