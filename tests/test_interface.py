"""[23]: the names of the interface, their arguments, and the files in which they are defined."""

import ast
import importlib
import inspect
import pathlib
import unittest

PACKAGE = pathlib.Path(__file__).resolve().parent.parent / "fourlooks"

LISTED = {
    "cords": {
        "is_cord": ["thing"], "is_yard": ["thing"], "points": ["cord"], "corners": ["cord"], "boxes": ["cord"],
        "begun": ["cord", "place"], "turned_back": ["cord"], "least_form": ["cord"], "alike": ["cord", "other"],
        "all_cords": ["many"],
    },
    "pushes": {
        "self_link": ["cord", "octant"], "four": ["cord"], "corner_sum": ["cord", "octant"],
        "four_by": ["cord", "octant", "number"], "octant_change": ["cord", "octant", "axis"],
    },
    "quarters": {
        "quarters": ["cord"], "quarters_by": ["cord", "octant", "number"],
        "bend_change": ["ahead", "stroke", "other", "behind"], "out_change": ["ahead", "stroke", "side", "behind"],
        "changed_rows": ["number"],
    },
}


class Interface(unittest.TestCase):
    def test_functions_take_the_arguments_by_their_names(self):
        for file, functions in LISTED.items():
            module = importlib.import_module("fourlooks." + file)
            for name, names in functions.items():
                with self.subTest(file=file, name=name):
                    told = inspect.signature(getattr(module, name)).parameters.values()
                    self.assertEqual([one.name for one in told], names)
                    self.assertTrue(all(one.kind is one.POSITIONAL_OR_KEYWORD for one in told))
                    self.assertTrue(all(one.default is one.empty for one in told))

    def test_functions_are_defined_in_their_file(self):
        for file, functions in LISTED.items():
            tree = ast.parse((PACKAGE / (file + ".py")).read_text())
            defined = {node.name for node in tree.body if isinstance(node, ast.FunctionDef)}
            self.assertLessEqual(set(functions), defined)


if __name__ == "__main__":
    unittest.main()
