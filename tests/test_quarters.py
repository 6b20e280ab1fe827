"""[10]: quarters.py."""

import itertools
import unittest
from collections import Counter

import lab
from fourlooks.cords import all_cords, begun, turned_back
from fourlooks.errors import Unfit
from fourlooks.pushes import corner_sum, four, self_link
from fourlooks.quarters import bend_change, changed_rows, out_change, quarters, quarters_by

FAR = 10 ** 6
ROWS = tuple(itertools.product(lab.STROKES, repeat=4))
NO_STROKES = (0, 4, -4, 10 ** 6, True, None, "1", (1,), [1])


def runs_on(*strokes):
    return all(a + b != 0 for a, b in zip(strokes, strokes[1:]))


def is_fit_bend(a, b, c, d):
    return runs_on(a, b, c, d) and runs_on(a, c, b, d) and abs(b) != abs(c)


def is_fit_bump(a, b, side, d):
    return runs_on(a, b, d) and runs_on(a, side, b, -side, d) and abs(b) != abs(side)


class Quarters(unittest.TestCase):
    def test_the_sum_of_four(self):
        for cord in lab.all_kinds():
            self.assertEqual(quarters(cord), sum(four(cord)))

    def test_four_times_l_less_r_for_each_octant(self):
        for cord in lab.all_kinds():
            told = quarters(cord)
            for octant in lab.OCTANTS:
                own = self_link(cord, octant)
                self.assertEqual(told, 4 * own - corner_sum(cord, octant))
                self.assertEqual(told, quarters_by(cord, octant, own))

    def test_told_the_other_way_round_begun_elsewhere_and_moved(self):
        for cord in lab.all_kinds():
            told = quarters(cord)
            self.assertEqual(quarters(turned_back(cord)), told)
            for place in (1, len(cord[1]) // 2, len(cord[1]) - 1):
                self.assertEqual(quarters(begun(cord, place)), told)
            for by in ((FAR, FAR, FAR), (-FAR, FAR, -FAR), (0, -1, 0)):
                self.assertEqual(quarters(lab.moved(cord, by)), told)

    def test_turned_and_mirrored(self):
        for cord in lab.all_kinds():
            told = quarters(cord)
            self.assertEqual(quarters(lab.turned_round(cord)), told)
            for axis in (1, 2, 3):
                self.assertEqual(quarters(lab.mirrored(cord, axis)), -told)

    def test_all_short_forms(self):
        for many, told in ((4, {0: 3}), (6, {0: 22}), (8, {0: 87, 1: 60, -1: 60})):
            self.assertEqual(Counter(quarters(cord) for cord in all_cords(many)), told)


class QuartersBy(unittest.TestCase):
    def test_by_the_corners_alone(self):
        for cord in lab.great_cords() + (lab.COIL, lab.SKEW):
            for octant in lab.OCTANTS:
                own = self_link(cord, octant)
                for more in (0, 1, -1, 9, FAR, -FAR, 10 ** 30):
                    self.assertEqual(quarters_by(cord, octant, own + more), quarters(cord) + 4 * more)

    def test_opposite_octants_tell_alike(self):
        for octant in lab.OCTANTS:
            self.assertEqual(quarters_by(lab.STAIRS, octant, 2), quarters_by(lab.STAIRS, lab.opposite(octant), 2))


class BendChange(unittest.TestCase):
    def test_each_row(self):
        many = Counter()
        for row in ROWS:
            a, b, c, d = row
            if not is_fit_bend(*row):
                with self.assertRaises(Unfit) as caught:
                    bend_change(*row)
                self.assertEqual(vars(caught.exception), {})
                continue
            told = -lab.det_of(b, c, a) - lab.det_of(b, c, d)
            self.assertEqual(bend_change(*row), told)
            self.assertEqual(bend_change(a, c, b, d), -told)
            many[told] += 1
        self.assertEqual(many, {-2: 24, -1: 96, 0: 144, 1: 96, 2: 24})

    def test_what_is_no_stroke_is_unfit(self):
        for at in range(4):
            for bad in NO_STROKES:
                row = [1, 2, 1, 3]
                row[at] = bad
                with self.assertRaises(Unfit):
                    bend_change(*row)

    def test_beside_quarters_ahead_and_behind(self):
        seen = Counter()
        for cord in lab.all_kinds():
            for place in range(len(cord[1])):
                own = begun(cord, place)
                for first in (0, len(own[1]) - 2):
                    new = lab.bent(own, first)
                    if new is not None:
                        ahead, behind = lab.around(own, first, first + 1)
                        told = bend_change(ahead, own[1][first], own[1][first + 1], behind)
                        self.assertEqual(quarters(new) - quarters(own), told)
                        seen[told] += 1
        self.assertEqual(set(seen), {-2, -1, 0, 1, 2})


class OutChange(unittest.TestCase):
    def test_each_row(self):
        many = 0
        for row in ROWS:
            a, b, side, d = row
            if not is_fit_bump(*row):
                with self.assertRaises(Unfit) as caught:
                    out_change(*row)
                self.assertEqual(vars(caught.exception), {})
                continue
            self.assertEqual(out_change(*row), lab.det_of(side, b, a) + lab.det_of(side, b, d))
            many += 1
        self.assertEqual(many, 384)

    def test_what_is_no_stroke_is_unfit(self):
        for at in range(4):
            for bad in NO_STROKES:
                row = [1, 1, 3, 2]
                row[at] = bad
                with self.assertRaises(Unfit):
                    out_change(*row)

    def test_beside_quarters_ahead_and_behind_out_and_in_again(self):
        seen = Counter()
        for cord in lab.all_kinds():
            for place in range(0, len(cord[1]), 3):
                own = begun(cord, place)
                for side in lab.STROKES:
                    first = (place + side) % len(own[1])
                    new = lab.bumped(own, first, side)
                    if new is not None:
                        ahead, behind = lab.around(own, first, first)
                        told = out_change(ahead, own[1][first], side, behind)
                        self.assertEqual(quarters(new) - quarters(own), told)
                        again = lab.drawn(new, first)
                        self.assertEqual(again, own)
                        self.assertEqual(quarters(again) - quarters(new), -told)
                        seen[told] += 1
        self.assertEqual(set(seen), {-2, -1, 0, 1, 2})

    def test_hops_change_as_bumps_and_by_eight_more_over_the_own_cord(self):
        seen = Counter()
        cords = lab.great_cords() + (lab.HOOP, lab.RING)
        for cord in cords + tuple(lab.mirrored(cord, 2) for cord in cords):
            for place in range(len(cord[1])):
                own = begun(cord, place)
                for first, side in itertools.product((0, len(own[1]) - 2), lab.STROKES):
                    told = lab.hopped(own, first, side)
                    if told is not None:
                        new, sign = told
                        ahead, behind = lab.around(own, first, first + 1)
                        change = out_change(ahead, own[1][first], side, behind)
                        self.assertEqual(quarters(new) - quarters(own), change + 8 * sign)
                        seen[sign] += 1
        self.assertEqual(set(seen), {-1, 0, 1})


class ChangedRows(unittest.TestCase):
    def test_all_fit_rows_by_what_they_change(self):
        for number in (-3, -2, -1, 0, 1, 2, 3, 8, -FAR, FAR):
            told = changed_rows(number)
            fit = [row for row in ROWS if is_fit_bend(*row)]
            self.assertEqual(told, [row for row in fit if -lab.det_of(row[1], row[2], row[0])
                                    - lab.det_of(row[1], row[2], row[3]) == number])
            self.assertEqual(told, sorted(told))
            self.assertIs(type(told), list)
            self.assertTrue(all(type(row) is tuple for row in told))

    def test_how_many_there_are(self):
        self.assertEqual([len(changed_rows(number)) for number in range(-4, 5)], [0, 0, 24, 96, 144, 96, 24, 0, 0])


if __name__ == "__main__":
    unittest.main()
