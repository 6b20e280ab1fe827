"""[4]: cords.py."""

import itertools
import random
import sys
import unittest

import lab
from fourlooks.cords import (alike, all_cords, begun, boxes, corners, is_cord, is_yard, least_form, points,
                             turned_back)
from fourlooks.errors import NoPlace, TooMany, Unfit

FAR = 10 ** 6
SHIFTS = ((0, 0, 0), (FAR, FAR, FAR), (-FAR, -FAR, -FAR), (-3, 7, 0), (10 ** 30, -10 ** 30, 5))


def calls_of(work):
    """How many calls are made while work runs: it tells the same on each machine, as time does not."""
    many = 0

    def seen(frame, event, told):
        nonlocal many
        many += event in ("call", "c_call")

    before = sys.getprofile()
    sys.setprofile(seen)
    try:
        work()
    finally:
        sys.setprofile(before)
    return many


class IsCord(unittest.TestCase):
    def test_cords_are_cords(self):
        for cord in lab.all_kinds():
            for by in SHIFTS:
                self.assertIs(is_cord(lab.moved(cord, by)), True)

    def test_nothing_else_is_one(self):
        for at, bad in enumerate(lab.NO_CORDS):
            with self.subTest(at=at):
                self.assertIs(is_cord(bad), False)
            for own in lab.listed(bad):
                self.assertIs(is_cord(own), False)

    def test_lists_are_no_tuples(self):
        for cord in (lab.SQUARE, lab.COIL, lab.STAIRS):
            for own in lab.listed(cord):
                self.assertIs(is_cord(own), False)

    def test_all_rows_of_four_and_of_six_strokes(self):
        for many in (4, 6):
            good = set(lab.closed_rows(many))
            for row in itertools.product(lab.STROKES, repeat=many):
                self.assertIs(is_cord(((0, 0, 0), row)), row in good)
                if row[-1] == -3:
                    self.assertIs(is_cord(((0, 0, 0), row[:-1])), False)

    def test_a_stroke_changed_left_out_or_told_twice(self):
        for cord in lab.great_cords():
            start, strokes = cord
            for k in range(len(strokes)):
                for row in (strokes[:k] + strokes[k + 1:], strokes[:k] + strokes[k:k + 1] + strokes[k:],
                            strokes[:k] + (-strokes[k],) + strokes[k + 1:], strokes[:k] + (0,) + strokes[k + 1:]):
                    self.assertIs(is_cord((start, row)), False)

    def test_a_row_that_meets_itself(self):
        eight = (1, 1, 2, -1, -2, -2, -1, 2)
        self.assertEqual(lab.walk(((0, 0, 0), eight))[-1], (0, 0, 0))
        for k in range(8):
            self.assertIs(is_cord(((0, 0, 0), eight[k:] + eight[:k])), False)

    def test_however_many_strokes(self):
        many = 20000
        long = ((0, 0, 0), (1,) * many + (3,) + (-1,) * many + (-3,))
        self.assertIs(is_cord(long), True)
        self.assertIs(is_cord((long[0], long[1][:-1] + (3,))), False)
        self.assertIs(is_cord((long[0], long[1] * 2)), False)


class IsYard(unittest.TestCase):
    def test_yards(self):
        many = tuple(lab.moved(lab.COIL, (3 * k, 0, 0)) for k in range(30))
        above = (lab.SQUARE, lab.moved(lab.SQUARE, (0, 0, 1)))
        far = (lab.moved(lab.STAIRS, (FAR, FAR, FAR)), lab.STAIRS)
        for yard in ((lab.COIL,), (lab.HOOP, lab.RING), (lab.RING, lab.HOOP), above, many, far):
            self.assertIs(is_yard(yard), True)
            for at, cord in enumerate(yard):
                for by in ((0, 0, 0), (1, 0, 0)):
                    self.assertIs(is_yard(yard + (lab.moved(cord, by),)), False, (at, by))

    def test_one_common_point_anywhere(self):
        for spot in lab.walk(lab.COIL)[:-1]:
            for place in range(4):
                away = lab.moved(lab.SQUARE, lab.less((0, 0, 0), lab.walk(lab.SQUARE)[place]))
                other = lab.moved(away, spot)
                aside = lab.moved(lab.SQUARE, (9, 9, 9))
                for yard in itertools.permutations((lab.COIL, other, aside)):
                    self.assertIs(is_yard(yard), False)
                self.assertIs(is_yard((lab.COIL, aside)), True)

    def test_nothing_else_is_one(self):
        for bad in lab.NO_CORDS:
            # The one of them that is a YARD although it is no CORD.
            self.assertIs(is_yard(bad), bad == (lab.SQUARE,))
            self.assertIs(is_yard((bad,)), False)
            self.assertIs(is_yard((lab.COIL, bad)), False)
            self.assertIs(is_yard((bad, lab.COIL)), False)
        for cord in (lab.SQUARE, lab.COIL):
            self.assertIs(is_yard(cord), False)
        self.assertIs(is_yard(()), False)

    def test_lists_are_no_tuples(self):
        for yard in ((lab.COIL,), (lab.HOOP, lab.RING)):
            for own in lab.listed(yard):
                self.assertIs(is_yard(own), False)


class Points(unittest.TestCase):
    def test_points_are_where_strokes_begin(self):
        for cord in lab.all_kinds():
            for by in SHIFTS:
                own = lab.moved(cord, by)
                self.assertEqual(points(own), tuple(lab.walk(own)[:-1]))

    def test_each_stroke_by_itself(self):
        self.assertEqual(points(((-1, 5, 0), (-3, -2, 3, 2))), ((-1, 5, 0), (-1, 5, -1), (-1, 4, -1), (-1, 4, 0)))
        self.assertEqual(points(((FAR, -FAR, 2), (1, -2, -1, 2))),
                         ((FAR, -FAR, 2), (FAR + 1, -FAR, 2), (FAR + 1, -FAR - 1, 2), (FAR, -FAR - 1, 2)))

    def test_boxes(self):
        for cord in lab.all_kinds():
            for by in SHIFTS:
                own = lab.moved(cord, by)
                columns = list(zip(*lab.walk(own)))
                self.assertEqual(boxes(own), (tuple(map(min, columns)), tuple(map(max, columns))))
        self.assertEqual(boxes(lab.LONG), ((0, 0, 0), (19, 1, 0)))
        self.assertEqual(boxes(lab.moved(lab.LONG, (-FAR, 0, 3))), ((-FAR, 0, 3), (19 - FAR, 1, 3)))


class Corners(unittest.TestCase):
    def test_corners_are_where_axes_change(self):
        for cord in lab.all_kinds():
            spots = lab.walk(cord)[:-1]
            bent = tuple(k for k in range(len(spots))
                         if lab.less(spots[k], spots[k - 1]) != lab.less(spots[(k + 1) % len(spots)], spots[k]))
            self.assertEqual(corners(cord), bent)

    def test_point_0_is_between_the_last_stroke_and_the_first(self):
        self.assertEqual(corners(lab.begun_at(lab.HOOP, 1)), (1, 3, 5, 7))
        self.assertEqual(corners(lab.begun_at(lab.HOOP, 7)), (1, 3, 5, 7))
        self.assertEqual(corners(lab.SQUARE), (0, 1, 2, 3))

    def test_straight_ones_and_bent_ones(self):
        self.assertEqual(corners(lab.LONG), (0, 19, 20, 39))
        self.assertEqual(corners(lab.begun_at(lab.LONG, 1)), (18, 19, 38, 39))
        self.assertEqual(corners(lab.STAIRS), tuple(range(40)))

    def test_guarantees_of_each_cord(self):
        for cord in lab.all_kinds():
            self.assertEqual(len(cord[1]) % 2, 0)
            self.assertGreaterEqual(len(corners(cord)), 4)
            for axis in (1, 2, 3):
                self.assertEqual(cord[1].count(axis), cord[1].count(-axis))


class Begun(unittest.TestCase):
    def test_begun_at_each_place(self):
        for cord in lab.all_kinds():
            for place in range(len(cord[1])):
                told = begun(cord, place)
                self.assertEqual(told, lab.begun_at(cord, place))
                self.assertEqual(points(told)[0], points(cord)[place])
            self.assertEqual(begun(cord, 0), cord)
            self.assertEqual(begun(begun(cord, 1), len(cord[1]) - 1), cord)

    def test_the_last_place(self):
        self.assertEqual(begun(lab.SQUARE, 3), ((0, 1, 0), (-2, 1, 2, -1)))
        self.assertEqual(begun(lab.LONG, 39), ((0, 1, 0), (-2,) + lab.LONG[1][:-1]))

    def test_no_such_place(self):
        for cord in (lab.SQUARE, lab.COIL, lab.LONG):
            many = len(cord[1])
            for place in (-1, -many, many, many + 1, 10 ** 6, -10 ** 6, 10 ** 30):
                for own in (cord, lab.as_lists(cord)):
                    with self.assertRaises(NoPlace) as caught:
                        begun(own, place)
                    self.assertEqual(vars(caught.exception), {"place": place})

    def test_what_is_no_number_is_no_place(self):
        for place in (True, False, None, "0"):
            with self.assertRaises(NoPlace) as caught:
                begun(lab.SQUARE, place)
            self.assertIs(caught.exception.place, place)


class TurnedBack(unittest.TestCase):
    def test_turned_back(self):
        for cord in lab.all_kinds():
            told = turned_back(cord)
            spots = points(cord)
            self.assertEqual(points(told), spots[:1] + spots[:0:-1])
            self.assertTrue(is_cord(told))
            self.assertEqual(turned_back(told), cord)


class LeastForms(unittest.TestCase):
    def test_the_least_of_all_that_have_the_shape(self):
        for cord in lab.all_kinds():
            rows = []
            for own in (cord, lab.told_back(cord)):
                rows += [lab.begun_at(own, k)[1] for k in range(len(own[1]))]
            self.assertEqual(least_form(cord), ((0, 0, 0), min(rows)))

    def test_one_least_form_for_one_shape_and_only_for_it(self):
        for many, shapes in ((4, 3), (6, 22), (8, 207)):
            forms = {}
            for row in lab.closed_rows(many):
                cord = ((0, 0, 0), row)
                forms.setdefault(least_form(cord), set()).add(lab.shape(cord))
            self.assertEqual(len(forms), shapes)
            self.assertTrue(all(len(found) == 1 for found in forms.values()))
            self.assertEqual(len(set().union(*forms.values())), shapes)

    def test_a_least_form_stays_wherever_one_begins_and_whichever_way_one_goes(self):
        rng = random.Random(4)
        for cord in lab.great_cords():
            form = least_form(cord)
            self.assertEqual(least_form(form), form)
            self.assertEqual(lab.shape(form), lab.shape(cord))
            for _ in range(8):
                own = lab.moved(lab.begun_at(cord, rng.randrange(len(cord[1]))), rng.choice(SHIFTS))
                own = rng.choice((own, lab.told_back(own)))
                self.assertEqual(least_form(own), form)
                self.assertIs(alike(own, cord), True)

    def test_alike_exactly_for_one_shape(self):
        cords = lab.short_cords()[:60] + lab.great_cords()
        cords += tuple(lab.turned_round(cord) for cord in cords) + tuple(lab.mirrored(cord, 1) for cord in cords)
        told = [(lab.shape(cord), cord) for cord in cords]
        for (one, cord), (two, other) in itertools.product(told[::3], told[::7]):
            self.assertIs(alike(cord, other), one == two)

    def test_turned_and_mirrored_is_another_shape(self):
        self.assertIs(alike(lab.SQUARE, lab.turned_round(lab.SQUARE)), False)
        self.assertIs(alike(lab.COIL, lab.mirrored(lab.COIL, 3)), False)
        self.assertIs(alike(lab.SQUARE, lab.HOOP), False)


class AllCords(unittest.TestCase):
    def test_all_least_forms_once_ascending(self):
        for many in (4, 6, 8):
            told = all_cords(many)
            self.assertIs(type(told), list)
            self.assertEqual(told, sorted({least_form(((0, 0, 0), row)) for row in lab.closed_rows(many)}))
            self.assertEqual({lab.shape(cord) for cord in told},
                             {lab.shape(((0, 0, 0), row)) for row in lab.closed_rows(many)})
        self.assertEqual([len(all_cords(many)) for many in (4, 6, 8)], [3, 22, 207])

    def test_no_row_is_walked_anew_for_each_stroke(self):
        # A third of the calls that it took when each row was walked anew for each stroke tried behind it.
        for many, most in ((4, 889), (6, 9877), (8, 136243)):
            self.assertLess(calls_of(lambda: all_cords(many)), most)

    def test_asked_again_it_tells_the_same(self):
        for many in (8, 4, 6, 8, 6, 4):
            told = all_cords(many)
            self.assertEqual(told, sorted({least_form(((0, 0, 0), row)) for row in lab.closed_rows(many)}))
            del told[1:]

    def test_more_than_eight_are_too_many(self):
        for many in (9, 10, 11, 12, 40, 10 ** 6, 10 ** 30):
            with self.assertRaises(TooMany) as caught:
                all_cords(many)
            self.assertEqual(vars(caught.exception), {})

    def test_other_numbers_are_unfit(self):
        for many in (7, 5, 3, 2, 1, 0, -1, -4, -6, -8, -10 ** 6):
            with self.assertRaises(Unfit):
                all_cords(many)


if __name__ == "__main__":
    unittest.main()
