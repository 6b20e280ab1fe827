"""The examples of the document, word for word: sections 3 to 21; and those of README.md."""

import doctest
import pathlib
import unittest

import examples
from fourlooks import (bands, board, cords, deeds, effects, errors, hops, joins, judge, links, looks, plans, pushes,
                       quarters, rooms, sides, skins, spaces, texts, yards)

MODULES = (cords, spaces, looks, links, skins, pushes, quarters, sides, bands, deeds, effects, plans, hops, rooms, yards,
           joins, judge, texts, board)
# In the order of the document: a name that a section does not set is that of the nearest one ahead.
SECTIONS = (
    ("cords", examples.CORDS, 10), ("spaces", examples.SPACES, 6), ("looks", examples.LOOKS, 7),
    ("links", examples.LINKS, 6), ("skins", examples.SKINS, 7), ("pushes", examples.PUSHES, 6),
    ("quarters", examples.QUARTERS, 8), ("sides", examples.SIDES, 7), ("bands", examples.BANDS, 9),
    ("deeds", examples.DEEDS, 9), ("effects", examples.EFFECTS, 7), ("plans", examples.PLANS, 7),
    ("hops", examples.HOPS, 5), ("rooms", examples.ROOMS, 6), ("yards", examples.YARDS, 8),
    ("joins", examples.JOINS, 5), ("judge", examples.JUDGE, 6), ("texts", examples.TEXTS, 5), ("board", examples.BOARD, 7),
)


def names():
    """What the examples call, and nothing else."""
    found = {}
    for module in MODULES:
        found.update({name: value for name, value in vars(module).items() if not name.startswith("_")})
    return found


class Examples(unittest.TestCase):
    def told(self, text, known):
        """Checks each example of the text; tells how many there were."""
        many = 0
        lines = text.strip().split("\n")
        for at, line in enumerate(lines):
            if not line.startswith(">>> "):
                continue
            code, ahead = line[4:], lines[at + 1:at + 2]
            if not ahead or ahead[0].startswith(">>> "):
                exec(code, known)
                continue
            many += 1
            with self.subTest(code):
                self.one(code, ahead[0], known)
        return many

    def one(self, code, told, known):
        if not told.startswith("raises "):
            self.assertEqual(repr(eval(code, known)), told)
            return
        name, kept = told[len("raises "):-1].split("(", 1)
        with self.assertRaises(Exception) as caught:
            eval(code, known)
        self.assertIs(type(caught.exception), getattr(errors, name))
        self.assertEqual(", ".join(f"{key}={value}" for key, value in vars(caught.exception).items()), kept)

    def test_sections(self):
        known = names()
        for name, text, many in SECTIONS:
            with self.subTest(section=name):
                self.assertEqual(self.told(text, known), many)

    def test_readme(self):
        path = pathlib.Path(__file__).resolve().parent.parent / "README.md"
        told = doctest.testfile(str(path), module_relative=False)
        self.assertEqual((told.failed, told.attempted), (0, 50))


if __name__ == "__main__":
    unittest.main()
