"""The interface: names, arguments and the files where they are defined."""

import ast
import inspect
import pathlib
import unittest

from pilerun import errors, reader, spots

PACKAGE = pathlib.Path(__file__).resolve().parent.parent / "pilerun"
ERRORS = ("PileError", "BadMachine", "BadSpot", "BadRule", "TooMany", "NoArrow", "NoRun", "TooLong")
FUNCTIONS = {
    "is_rule": ["thing", "many"],
    "is_spot": ["thing", "many"],
    "after": ["rule", "spot"],
    "nexts": ["rules", "spot"],
}
METHODS = {
    "__init__": ["many", "rules", "goal"],
    "rules": [],
    "rooms": [],
    "end": [],
    "arrows": [],
    "weight": ["arrow"],
    "reason": ["arrow"],
    "least": ["spot"],
    "way": ["spot"],
    "run": ["spot"],
    "learn": ["rule"],
}


def defined_in(file, kind):
    """The names that a file defines by such statements at its top."""
    tree = ast.parse((PACKAGE / file).read_text())
    return [node.name for node in tree.body if isinstance(node, kind)]


class InterfaceTest(unittest.TestCase):
    def test_functions(self):
        for name, wanted in FUNCTIONS.items():
            self.assertEqual(list(inspect.signature(getattr(spots, name)).parameters), wanted)
            self.assertIn(name, defined_in("spots.py", ast.FunctionDef))

    def test_methods(self):
        for name, wanted in METHODS.items():
            self.assertIn(name, vars(reader.Reader))
            self.assertEqual(list(inspect.signature(vars(reader.Reader)[name]).parameters)[1:], wanted)
        self.assertIn("Reader", defined_in("reader.py", ast.ClassDef))

    def test_errors(self):
        for name in ERRORS:
            self.assertTrue(issubclass(getattr(errors, name), errors.PileError))
            self.assertIn(name, defined_in("errors.py", ast.ClassDef))

    def test_most_steps(self):
        self.assertEqual(reader.MOST_STEPS, 500)
