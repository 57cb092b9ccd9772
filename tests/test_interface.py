import importlib
import inspect
import unittest

INTERFACE = {
    "whisperwall.errors": {},
    "whisperwall.things": {
        "is_program": ["thing"], "is_house": ["thing"], "is_store": ["thing"], "names_of": ["program"],
    },
    "whisperwall.running": {"value": ["term", "store"], "run": ["program", "store", "most"]},
    "whisperwall.flowing": {
        "flows": ["program"], "lets": ["program", "house"], "seen": ["store", "house", "level"],
    },
    "whisperwall.settling": {"settled": ["program", "house"]},
    "whisperwall.cutting": {"cut": ["program", "house", "level"]},
}


class TestInterface(unittest.TestCase):
    """The names and arguments at the document's end."""

    def test_names_and_arguments(self):
        for module, functions in INTERFACE.items():
            loaded = importlib.import_module(module)
            self.assertTrue(loaded.__doc__)
            for name, arguments in functions.items():
                found = inspect.signature(getattr(loaded, name)).parameters
                self.assertEqual(list(found), arguments, name)
                for parameter in found.values():
                    self.assertIs(parameter.default, inspect.Parameter.empty)


if __name__ == "__main__":
    unittest.main()
