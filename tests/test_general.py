"""[2], [3]: what holds for all functions: lists for tuples, names, Unfit ahead of all, nothing changed."""

import copy
import unittest

import lab
from fourlooks.cords import (alike, all_cords, begun, boxes, corners, is_cord, is_yard, least_form, points,
                             turned_back)
from fourlooks.errors import Unfit
from fourlooks.pushes import corner_sum, four, four_by, octant_change, self_link
from fourlooks.quarters import bend_change, changed_rows, out_change, quarters, quarters_by

# The functions that take a CORD first, with what else they take.
OF_CORDS = (
    (points, {}), (corners, {}), (boxes, {}), (begun, {"place": 3}), (turned_back, {}), (least_form, {}),
    (alike, {"other": lab.COIL}), (self_link, {"octant": (1, -1, 1)}), (four, {}),
    (corner_sum, {"octant": (1, 1, -1)}), (four_by, {"octant": (-1, 1, 1), "number": 3}),
    (octant_change, {"octant": (1, -1, -1), "axis": 2}), (quarters, {}),
    (quarters_by, {"octant": (1, 1, 1), "number": -2}),
)
SAMPLES = (lab.SQUARE, lab.SKEW, lab.COIL, lab.HOOP, lab.RING, lab.LOOP, lab.STAIRS, lab.LONG)


class Lists(unittest.TestCase):
    def test_lists_in_the_place_of_tuples_at_each_depth(self):
        for cord in SAMPLES:
            for function, more in OF_CORDS:
                told = function(cord, **more)
                for own in lab.listed(cord):
                    with self.subTest(function=function.__name__, own=own):
                        self.assertEqual(repr(function(own, **more)), repr(told))

    def test_lists_in_the_other_arguments(self):
        for cord in SAMPLES:
            for function, more in OF_CORDS:
                told = function(cord, **more)
                for name, value in more.items():
                    for own in lab.listed(value):
                        with self.subTest(function=function.__name__, name=name, own=own):
                            self.assertEqual(repr(function(cord, **{**more, name: own})), repr(told))

    def test_what_is_told_of_a_cord_is_told_in_tuples(self):
        cord = lab.as_lists(lab.COIL)
        told = (points(cord), corners(cord), boxes(cord), begun(cord, 0), turned_back(cord), least_form(cord),
                four(cord), four_by(cord, [1, 1, 1], 0))
        self.assertEqual(repr(told), repr(lab.as_tuples(told)))

    def test_a_list_is_no_tuple_for_thing(self):
        for own in lab.listed(lab.COIL):
            self.assertIs(is_cord(own), False)
        for own in lab.listed((lab.HOOP, lab.RING)):
            self.assertIs(is_yard(own), False)


class Calls(unittest.TestCase):
    def test_arguments_by_position_or_by_name(self):
        for cord in SAMPLES:
            for function, more in OF_CORDS:
                with self.subTest(function.__name__):
                    self.assertEqual(function(cord, *more.values()), function(cord=cord, **more))
                    self.assertEqual(function(cord, *more.values()), function(**more, cord=cord))
        self.assertIs(is_cord(thing=lab.COIL), True)
        self.assertIs(is_yard(thing=(lab.COIL,)), True)
        self.assertEqual(all_cords(many=6), all_cords(6))
        self.assertEqual(bend_change(behind=3, other=1, stroke=2, ahead=1), 1)
        self.assertEqual(out_change(behind=2, side=3, stroke=1, ahead=-2), 0)
        self.assertEqual(out_change(behind=2, side=3, stroke=1, ahead=1), 1)
        self.assertEqual(changed_rows(number=-1), changed_rows(-1))

    def test_the_same_call_tells_the_same(self):
        for function, more in OF_CORDS:
            for cord in SAMPLES:
                first = repr(function(cord, **more))
                self.assertEqual(repr(function(cord, **more)), first)

    def test_arguments_stay_as_they_were(self):
        for function, more in OF_CORDS:
            for cord in SAMPLES:
                own = {"cord": lab.as_lists(cord)}
                own.update({name: lab.as_lists(value) for name, value in more.items()})
                kept = copy.deepcopy(own)
                function(**own)
                self.assertEqual(repr(own), repr(kept), function.__name__)
        own = lab.as_lists(lab.SQUARE)
        with self.assertRaises(LookupError):
            begun(own, 4)
        self.assertEqual(own, lab.as_lists(lab.SQUARE))

    def test_arguments_stay_as_they_were_when_unfit(self):
        for own in ([[0, 0, 0], [1, 2, -1]], [[0, 0], [1, 2, -1, -2]], [[0, 0, 0], [1, 2, -1, -2], []]):
            kept = copy.deepcopy(own)
            for function, more in OF_CORDS:
                with self.assertRaises(Unfit):
                    function(own, **more)
            self.assertEqual(own, kept)

    def test_each_told_list_is_new(self):
        for function, number in ((all_cords, 4), (all_cords, 6), (changed_rows, 2), (changed_rows, 9)):
            first, kept = function(number), function(number)
            self.assertIsNot(first, kept)
            self.assertIs(type(first), list)
            first.append("own")
            first[:1] = []
            self.assertEqual(function(number), kept)

    def test_what_is_told_may_be_handed_in(self):
        for cord in SAMPLES:
            told = begun(turned_back(least_form(cord)), len(cord[1]) - 1)
            self.assertTrue(is_cord(told))
            self.assertTrue(alike(told, cord))


class UnfitCords(unittest.TestCase):
    def test_what_is_no_cord_is_unfit_ahead_of_all(self):
        for at, bad in enumerate(lab.NO_CORDS):
            for function, more in OF_CORDS:
                with self.subTest(at=at, function=function.__name__):
                    with self.assertRaises(Unfit) as caught:
                        function(bad, **more)
                    self.assertEqual(vars(caught.exception), {})

    def test_no_cord_told_by_lists(self):
        for bad in lab.NO_CORDS:
            for own in lab.listed(bad):
                for function, more in OF_CORDS:
                    with self.assertRaises(Unfit):
                        function(own, **more)

    def test_unfit_ahead_of_the_other_errors(self):
        for place in (-1, 4, 10 ** 6, None, "0"):
            with self.assertRaises(Unfit):
                begun(((0, 0, 0), (1, 2, -1)), place)

    def test_each_of_two_cords_must_be_one(self):
        for at, bad in enumerate(lab.NO_CORDS):
            with self.subTest(at=at):
                with self.assertRaises(Unfit):
                    alike(lab.COIL, bad)
                with self.assertRaises(Unfit):
                    alike(bad, lab.COIL)
                with self.assertRaises(Unfit):
                    alike(bad, bad)


if __name__ == "__main__":
    unittest.main()
