"""The names and arguments of the document's interface, in all files."""

import importlib
import inspect
import unittest

FUNCTIONS = {
    "polys": {"at": "some x", "plus": "one other", "times": "one other", "put_in": "one other"},
    "falling": {"falls": "some", "unfolded": "some", "at_falls": "some x"},
    "forms": {"form_of": "rests some", "value": "rests form x", "parting": "rests one other"},
    "tables": {"table": "rests form", "told_by": "rests table", "bar": "rests table"},
    "reckon": {
        "added": "rests one other", "multiplied": "rests one other", "put": "rests one other", "many_forms": "rests",
        "number_of": "rests form", "form_at": "rests number",
    },
    "exchange": {"meets": "rests form", "back": "rests form", "rounds": "rests form", "often": "rests form"},
    "partners": {"lone": "rests form", "partner": "rests form", "noughts": "rests form"},
    "pairs": {
        "at_two": "some x y", "form_two": "rests some", "value_two": "rests form x y", "parting_two": "rests one other",
        "square": "rests form",
    },
    "texts": {"read": "line", "shown": "some"},
}
CLASSES = {
    "errors": "RestError BadRest BadForm BadTable NoForm TooGreat NoText Meets Lone",
    "forms": "Rests",
}


class Interface(unittest.TestCase):
    def test_functions_and_their_arguments(self):
        for file, functions in FUNCTIONS.items():
            module = importlib.import_module(f"restform.{file}")
            for name, arguments in functions.items():
                act = getattr(module, name)
                self.assertTrue(inspect.isfunction(act), name)
                self.assertEqual(act.__module__, module.__name__)
                self.assertEqual(list(inspect.signature(act).parameters), arguments.split(), name)

    def test_classes(self):
        for file, names in CLASSES.items():
            module = importlib.import_module(f"restform.{file}")
            for name in names.split():
                self.assertTrue(inspect.isclass(getattr(module, name)), name)
                self.assertEqual(getattr(module, name).__module__, module.__name__)
        rests = importlib.import_module("restform.forms").Rests
        self.assertEqual(list(inspect.signature(rests).parameters), ["many"])


if __name__ == "__main__":
    unittest.main()
