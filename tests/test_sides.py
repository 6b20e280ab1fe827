"""[11]: sides.py."""

import itertools
import unittest

import lab
import model
from fourlooks.bands import band_begun, is_band, plain_band, slid
from fourlooks.errors import Unfit
from fourlooks.quarters import quarters
from fourlooks.sides import carried, home, side_turned, sides

FAR = 10 ** 6
NO_STROKES = (0, 4, -4, FAR, True, None, "1", (1,), [1], 1.0)
STROKE_OF = {vector: stroke for stroke, vector in lab.VECTORS.items()}
# All SIDES with their strokes.
PAIRS = tuple((side, stroke) for side in lab.STROKES for stroke in lab.STROKES if abs(side) != abs(stroke))
CORDS = lab.short_cords()[::5] + lab.great_cords()


def sides_of(stroke):
    return [side for side in lab.STROKES if abs(side) != abs(stroke)]


def carried_told(side, stroke, other):
    return STROKE_OF[model.carried_on(lab.VECTORS[side], stroke, other)]


def turned_told(side, stroke, number):
    """The SIDE turned quarter by quarter, this way or the other."""
    own = lab.VECTORS[side]
    for _ in range(abs(number)):
        own = model.cross(lab.VECTORS[stroke], own) if number > 0 else model.cross(own, lab.VECTORS[stroke])
    return STROKE_OF[own]


class Carried(unittest.TestCase):
    def test_all_sides_strokes_and_next_strokes(self):
        for side, stroke, other in itertools.product(lab.STROKES, repeat=3):
            if abs(side) == abs(stroke) or other == -stroke:
                with self.assertRaises(Unfit) as caught:
                    carried(side, stroke, other)
                self.assertEqual(vars(caught.exception), {})
            else:
                told = carried(side, stroke, other)
                self.assertEqual(told, carried_told(side, stroke, other))
                self.assertNotEqual(abs(told), abs(other))

    def test_as_section_10_tells_it(self):
        for side, stroke in PAIRS:
            self.assertEqual(carried(side, stroke, stroke), side)
            self.assertEqual(carried(side, stroke, side), -stroke)
            self.assertEqual(carried(side, stroke, -side), stroke)
            third = 6 - abs(side) - abs(stroke)
            self.assertEqual((carried(side, stroke, third), carried(side, stroke, -third)), (side, side))

    def test_carried_back(self):
        for (side, stroke), other in itertools.product(PAIRS, lab.STROKES):
            if other != -stroke:
                told = carried(side, stroke, other)
                self.assertEqual(carried(told, -other, -stroke), side)

    def test_what_is_no_side_of_a_stroke_is_unfit(self):
        for bad in NO_STROKES:
            for row in ((bad, 1, 2), (2, bad, 3), (2, 1, bad)):
                with self.assertRaises(Unfit):
                    carried(*row)


class SideTurned(unittest.TestCase):
    def test_by_some_quarters_either_way(self):
        for side, stroke in PAIRS:
            for number in range(-9, 10):
                self.assertEqual(side_turned(side, stroke, number), turned_told(side, stroke, number))

    def test_four_quarters_lead_back_however_many(self):
        for side, stroke in PAIRS:
            for number in (0, 4, -4, FAR, -FAR, 10 ** 30):
                self.assertEqual(side_turned(side, stroke, number), side)
            self.assertEqual(side_turned(side, stroke, FAR + 2), -side)
            self.assertEqual(side_turned(side, stroke, 1 - FAR), turned_told(side, stroke, 1))
            self.assertEqual(side_turned(side, stroke, -1 - FAR), turned_told(side, stroke, -1))

    def test_what_is_no_side_is_unfit(self):
        for side, stroke in itertools.product(lab.STROKES, repeat=2):
            if abs(side) == abs(stroke):
                for number in (0, 1, -3):
                    with self.assertRaises(Unfit) as caught:
                        side_turned(side, stroke, number)
                    self.assertEqual(vars(caught.exception), {})
        for bad in NO_STROKES:
            for row in ((bad, 1, 0), (2, bad, 1)):
                with self.assertRaises(Unfit):
                    side_turned(*row)

    def test_turned_first_or_carried_first(self):
        for (side, stroke), other in itertools.product(PAIRS, lab.STROKES):
            if other != -stroke:
                for number in (-2, -1, 1, 2, 5):
                    first = carried(side_turned(side, stroke, number), stroke, other)
                    self.assertEqual(side_turned(carried(side, stroke, other), other, number), first)


class Home(unittest.TestCase):
    def test_as_a_side_comes_home(self):
        for cord in lab.all_kinds():
            told = home(cord)
            self.assertEqual(told, model.home_of(cord))
            self.assertIn(told, (0, 1, 2, 3))

    def test_whichever_side_of_stroke_0(self):
        for cord in CORDS:
            strokes = cord[1]
            for side in sides_of(strokes[0]):
                own = side
                for stroke, other in zip(strokes, strokes[1:] + strokes[:1]):
                    own = carried(own, stroke, other)
                self.assertEqual(own, side_turned(side, strokes[0], home(cord)))

    def test_quarters_but_for_a_multiple_of_four(self):
        for cord in lab.all_kinds():
            self.assertEqual(home(cord), quarters(cord) % 4)

    def test_each_first_stroke(self):
        for cord in (lab.COIL, lab.mirrored(lab.COIL, 1), lab.STAIRS, lab.LOOP, lab.TWICE):
            for own in (cord, lab.told_back(cord), lab.turned_round(cord)):
                told = {home(lab.begun_at(own, place)) for place in range(len(own[1]))}
                self.assertEqual(told, {quarters(cord) % 4})


class Sides(unittest.TestCase):
    def test_at_begin_and_end_of_each_stroke(self):
        for cord in CORDS:
            for band in (plain_band(cord, 1), model.random_band(cord, 31), model.random_band(cord, 32)):
                strokes, turns = cord[1], band[1]
                for side in sides_of(strokes[0]):
                    told = sides(band, side)
                    own = side
                    self.assertEqual(len(told), len(strokes))
                    for k, (stroke, turn) in enumerate(zip(strokes, turns)):
                        end = turned_told(own, stroke, turn)
                        self.assertEqual(told[k], (own, end))
                        own = carried_told(end, stroke, strokes[(k + 1) % len(strokes)])
                    self.assertEqual(own, side)

    def test_a_side_comes_home_exactly_in_a_band(self):
        for cord in CORDS[::3]:
            for more in range(4):
                turns = (more,) + (0,) * (len(cord[1]) - 1)
                own = first = sides_of(cord[1][0])[0]
                for stroke, turn, other in zip(cord[1], turns, cord[1][1:] + cord[1][:1]):
                    own = carried(side_turned(own, stroke, turn), stroke, other)
                self.assertIs(own == first, is_band((cord, turns)))

    def test_behind_slides_the_other_strokes_keep_their_sides(self):
        for cord in CORDS[::3]:
            band = model.random_band(cord, 33)
            for side in sides_of(cord[1][0]):
                told = sides(band, side)
                for place in range(len(cord[1]) - 1):
                    own = sides(slid(band, place, 3), side)
                    self.assertEqual(own[:place] + own[place + 2:], told[:place] + told[place + 2:])
                    self.assertEqual((own[place][0], own[place + 1][1]), (told[place][0], told[place + 1][1]))

    def test_begun_elsewhere(self):
        for cord in CORDS[::3]:
            band = model.random_band(cord, 34)
            told = sides(band, sides_of(cord[1][0])[1])
            for place in range(len(cord[1])):
                self.assertEqual(sides(band_begun(band, place), told[place][0]), told[place:] + told[:place])

    def test_great_turns(self):
        self.assertEqual(sides((lab.SQUARE, (FAR + 1, -FAR, 2, -3 - FAR)), 3),
                         ((3, -2), (1, 1), (2, -2), (1, 3)))

    def test_what_is_no_side_of_stroke_0_is_unfit(self):
        for cord in (lab.SQUARE, lab.RING, lab.told_back(lab.COIL)):
            band = plain_band(cord, 0)
            for side in (cord[1][0], -cord[1][0]) + NO_STROKES:
                with self.assertRaises(Unfit) as caught:
                    sides(band, side)
                self.assertEqual(vars(caught.exception), {})


if __name__ == "__main__":
    unittest.main()
