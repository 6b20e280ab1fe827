"""The examples of the document, word for word: sections 3, 8 and 9; and those of README.md."""

import doctest
import pathlib
import unittest

from fourlooks import cords, errors, pushes, quarters

CORDS = """
>>> square, skew = ((0, 0, 0), (1, 2, -1, -2)), ((0, 0, 0), (1, 2, 3, -2, -1, -3))
>>> coil, hoop = ((0, 0, 0), (1, 2, 1, 3, -1, -1, -2, -3)), ((0, 0, 0), (1, 1, 2, 2, -1, -1, -2, -2))
>>> ring = ((1, 1, 0), (3, 1, 1, -3, -3, -1, -1, 3))
>>> points(coil)
((0, 0, 0), (1, 0, 0), (1, 1, 0), (2, 1, 0), (2, 1, 1), (1, 1, 1), (0, 1, 1), (0, 0, 1))
>>> corners(coil), corners(hoop), boxes(coil), boxes(ring)
((0, 1, 2, 3, 4, 6, 7), (0, 2, 4, 6), ((0, 0, 0), (2, 1, 1)), ((1, 1, -1), (3, 1, 1)))
>>> begun(coil, 3), turned_back(square)
(((2, 1, 0), (3, -1, -1, -2, -3, 1, 2, 1)), ((0, 0, 0), (2, 1, -2, -1)))
>>> least_form(square), least_form(coil)[1], alike(square, ((5, 0, 2), (-1, 2, 1, -2))), alike(skew, turned_back(begun(skew, 4)))
(((0, 0, 0), (-2, -1, 2, 1)), (-3, -1, -2, -1, 3, 2, 1, 1), True, True)
>>> is_cord(ring), is_cord(((0, 0, 0), (1, -1))), is_cord(((0, 0, 0), (1, 2, -1, 2))), is_cord([(0, 0, 0), (1, 2, -1, -2)]), is_cord(((0, 0), (1, 2, -1, -2)))
(True, False, False, False, False)
>>> is_yard((hoop, ring)), is_yard((hoop, square)), is_yard(()), is_yard(hoop)
(True, False, False, False)
>>> all_cords(4), len(all_cords(6)), len(all_cords(8))
([((0, 0, 0), (-3, -2, 3, 2)), ((0, 0, 0), (-3, -1, 3, 1)), ((0, 0, 0), (-2, -1, 2, 1))], 22, 207)
>>> begun(square, 4)
raises NoPlace(place=4)
>>> all_cords(5)
raises Unfit()
>>> corners(((0, 0, 0), (1, 2, -1)))
raises Unfit()
"""

PUSHES = """
>>> square, skew = ((0, 0, 0), (1, 2, -1, -2)), ((0, 0, 0), (1, 2, 3, -2, -1, -3))
>>> coil = ((0, 0, 0), (1, 2, 1, 3, -1, -1, -2, -3))
>>> four(square), four(skew), four(coil)
((0, 0, 0, 0), (1, -1, 0, 0), (-1, 0, 0, 0))
>>> [corner_sum(own, (1, 1, 1)) for own in (square, skew, coil)], corner_sum(skew, (1, 1, -1)), corner_sum(coil, (-1, 1, 1))
([0, 4, -3], -4, 1)
>>> self_link(coil, (1, 1, 1)), self_link(coil, (-1, -1, -1)), self_link(skew, (1, 1, -1)), self_link(skew, (1, -1, -1))
(-1, -1, -1, 0)
>>> four_by(coil, (1, 1, -1), 0), four_by(coil, (1, 1, -1), 5), four_by(skew, (-1, -1, 1), -1)
((-1, 0, 0, 0), (4, 5, 5, 5), (1, -1, 0, 0))
>>> octant_change(coil, (1, 1, 1), 3), octant_change(coil, (1, 1, -1), 3), octant_change(skew, (1, 1, 1), 3)
(-1, 1, 2)
>>> self_link(((0, 0, 0), (1, 2, -1)), (1, 1, 1))
raises Unfit()
"""

QUARTERS = """
>>> quarters(square), quarters(skew), quarters(coil), quarters(((5, 5, 5), (1, 2, 1, -2, -3, -1, -1, 3)))
(0, 0, -1, 1)
>>> quarters_by(coil, (1, -1, 1), 0), quarters_by(coil, (1, 1, 1), 0), quarters_by(skew, (1, 1, 1), 1)
(-1, 3, 0)
>>> bend_change(1, 2, 1, 3), quarters(((0, 0, 0), (1, 1, 2, 3, -1, -1, -2, -3))), bend_change(3, 1, 2, 3), bend_change(1, 2, 1, 2)
(1, 0, -2, 0)
>>> out_change(1, 1, 3, 2), out_change(2, 1, 3, 2), out_change(-2, 1, 3, 2), out_change(1, 1, 3, 1)
(1, 2, 0, 0)
>>> [len(changed_rows(number)) for number in (-3, -2, -1, 0, 1, 2)], changed_rows(2)[:2]
([0, 24, 96, 144, 96, 24], [(-3, -2, 1, -3), (-3, -1, -2, -3)])
>>> bend_change(-1, 1, 2, 1)
raises Unfit()
>>> bend_change(1, 2, 1, -2)
raises Unfit()
>>> out_change(-3, 1, 3, 1)
raises Unfit()
"""


def names():
    """What the examples call, and nothing else."""
    found = {}
    for module in (cords, pushes, quarters):
        found.update({name: value for name, value in vars(module).items() if not name.startswith("_")})
    return found


class Examples(unittest.TestCase):
    def told(self, text):
        """Checks each example of the text; tells how many there were."""
        known, many = names(), 0
        lines = text.strip().split("\n")
        for at, line in enumerate(lines):
            if not line.startswith(">>> "):
                continue
            code, ahead = line[4:], lines[at + 1:at + 2]
            if not ahead or ahead[0].startswith(">>> "):
                exec(code, known)
                continue
            many += 1
            with self.subTest(code):
                self.one(code, ahead[0], known)
        return many

    def one(self, code, told, known):
        if not told.startswith("raises "):
            self.assertEqual(repr(eval(code, known)), told)
            return
        name, kept = told[len("raises "):-1].split("(")
        with self.assertRaises(Exception) as caught:
            eval(code, known)
        self.assertIs(type(caught.exception), getattr(errors, name))
        self.assertEqual(", ".join(f"{key}={value}" for key, value in vars(caught.exception).items()), kept)

    def test_cords(self):
        self.assertEqual(self.told(CORDS), 10)

    def test_pushes(self):
        self.assertEqual(self.told(PUSHES), 6)

    def test_quarters(self):
        # The names that section 9 does not set are those of section 8.
        self.assertEqual(self.told(PUSHES + QUARTERS.lstrip()), 6 + 8)

    def test_readme(self):
        path = pathlib.Path(__file__).resolve().parent.parent / "README.md"
        told = doctest.testfile(str(path), module_relative=False)
        self.assertEqual((told.failed, told.attempted), (0, 7))


if __name__ == "__main__":
    unittest.main()
