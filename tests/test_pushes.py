"""[9]: pushes.py."""

import random
import unittest

import lab
from fourlooks.cords import begun, turned_back
from fourlooks.pushes import corner_sum, four, four_by, octant_change, self_link

FAR = 10 ** 6


def corner_rows(cord):
    """The pairs of the strokes at the CORNERS."""
    strokes = cord[1]
    return [(strokes[k - 1], strokes[k]) for k in range(len(strokes)) if abs(strokes[k - 1]) != abs(strokes[k])]


def along(octant, vector):
    """The sign of an OCTANT along a unit vector."""
    return sum(a * b for a, b in zip(octant, vector))


def corner_sum_told(cord, octant):
    """R of an OCTANT, as section 2 tells it."""
    total = 0
    for a, b in corner_rows(cord):
        u, v = lab.VECTORS[a], lab.VECTORS[b]
        n = (u[1] * v[2] - u[2] * v[1], u[2] * v[0] - u[0] * v[2], u[0] * v[1] - u[1] * v[0])
        alpha, beta, nu = along(octant, u), along(octant, v), along(octant, n)
        total += beta * nu if alpha == beta else 0
    return total


def push_seen(rng, cord, octant):
    """The LINK of a CORD with its PUSH into octant, by a random clean look of whatever octant."""
    return lab.clean_sight(rng, rng.choice(lab.OCTANTS), lambda look: lab.pushed_link_seen(cord, octant, look))


def other_octant(octant, axis):
    return tuple(-sign if at == axis - 1 else sign for at, sign in enumerate(octant))


class SelfLink(unittest.TestCase):
    def test_the_link_with_the_push_of_short_cords(self):
        rng = random.Random(9)
        for cord in lab.short_cords():
            for octant in lab.OCTANTS:
                self.assertEqual(self_link(cord, octant), push_seen(rng, cord, octant))

    def test_the_link_with_the_push_of_great_cords(self):
        rng = random.Random(10)
        for cord in lab.great_cords()[:30:3]:
            for octant in lab.OCTANTS[::3]:
                self.assertEqual(self_link(cord, octant), push_seen(rng, cord, octant))

    def test_each_clean_look_of_an_octant_sees_it(self):
        rng = random.Random(11)
        for cord in lab.all_kinds():
            for octant in lab.OCTANTS:
                seen = lab.clean_sight(rng, octant, lambda look: lab.seen_self(cord, look))
                self.assertEqual(self_link(cord, octant), seen)

    def test_several_looks_of_one_octant(self):
        rng = random.Random(12)
        for cord in (lab.COIL, lab.SKEW, lab.LOOP, lab.STAIRS):
            for octant in lab.OCTANTS:
                seen = {lab.clean_sight(rng, octant, lambda look: lab.seen_self(cord, look)) for _ in range(12)}
                self.assertEqual(seen, {self_link(cord, octant)})

    def test_alike_for_opposite_octants(self):
        for cord in lab.all_kinds():
            for octant in lab.OCTANTS:
                self.assertEqual(self_link(cord, octant), self_link(cord, lab.opposite(octant)))

    def test_the_same_wherever_the_cord_lies_and_is_begun(self):
        for cord in lab.great_cords():
            for octant in lab.FOUR_OCTANTS:
                told = self_link(cord, octant)
                for by in ((FAR, -FAR, FAR), (-FAR, -FAR, -FAR), (1, 0, 0), (0, 0, -1)):
                    self.assertEqual(self_link(lab.moved(cord, by), octant), told)
                for place in (1, len(cord[1]) // 2, len(cord[1]) - 1):
                    self.assertEqual(self_link(begun(cord, place), octant), told)
                self.assertEqual(self_link(turned_back(cord), octant), told)

    def test_turned_and_mirrored_with_the_octant(self):
        for cord in lab.all_kinds():
            for octant in lab.OCTANTS:
                told = self_link(cord, octant)
                self.assertEqual(self_link(lab.turned_round(cord), octant[2:] + octant[:2]), told)
                for axis in (1, 2, 3):
                    self.assertEqual(self_link(lab.mirrored(cord, axis), other_octant(octant, axis)), -told)

    def test_flat_cords_are_not_linked_with_themselves(self):
        for cord in (lab.SQUARE, lab.HOOP, lab.LONG, lab.WIDE):
            for octant in lab.OCTANTS:
                self.assertEqual(self_link(cord, octant), 0)


class Four(unittest.TestCase):
    def test_four_in_their_order(self):
        for cord in lab.all_kinds():
            told = four(cord)
            self.assertIs(type(told), tuple)
            self.assertEqual(told, tuple(self_link(cord, octant) for octant in lab.FOUR_OCTANTS))

    def test_each_of_the_four_by_itself(self):
        self.assertEqual(four(lab.COIL), (-1, 0, 0, 0))
        self.assertEqual(four(lab.mirrored(lab.COIL, 3)), (0, 1, 0, 0))
        self.assertEqual(four(lab.mirrored(lab.COIL, 2)), (0, 0, 1, 0))
        self.assertEqual(four(lab.mirrored(lab.COIL, 1)), (0, 0, 0, 1))


class CornerSum(unittest.TestCase):
    def test_as_it_is_told(self):
        for cord in lab.all_kinds():
            for octant in lab.OCTANTS:
                self.assertEqual(corner_sum(cord, octant), corner_sum_told(cord, octant))

    def test_opposite_octants_and_the_sum_of_all(self):
        for cord in lab.all_kinds():
            told = [corner_sum(cord, octant) for octant in lab.OCTANTS]
            self.assertEqual(told, [corner_sum(cord, lab.opposite(octant)) for octant in lab.OCTANTS])
            self.assertEqual(sum(told), 0)

    def test_the_corner_at_point_0_counts(self):
        for cord in (lab.COIL, lab.SKEW, lab.LOOP):
            for place in range(len(cord[1])):
                for octant in lab.OCTANTS:
                    self.assertEqual(corner_sum(begun(cord, place), octant), corner_sum(cord, octant))

    def test_straight_on_counts_nothing(self):
        for octant in lab.OCTANTS:
            self.assertEqual(corner_sum(lab.LONG, octant), 0)
            self.assertEqual(corner_sum(lab.WIDE, octant), 0)


class FourBy(unittest.TestCase):
    def test_one_l_and_the_corners_tell_all(self):
        for cord in lab.all_kinds():
            told = four(cord)
            for octant in lab.OCTANTS:
                own = self_link(cord, octant)
                self.assertEqual(four_by(cord, octant, own), told)

    def test_another_number_is_more_everywhere(self):
        for cord in lab.great_cords() + (lab.SKEW, lab.COIL):
            told = four(cord)
            for octant in lab.OCTANTS:
                own = self_link(cord, octant)
                for more in (1, -1, 7, -FAR, FAR, 10 ** 30):
                    self.assertEqual(four_by(cord, octant, own + more), tuple(each + more for each in told))

    def test_the_octant_asked_for_gets_the_number(self):
        for octant, at in zip(lab.FOUR_OCTANTS, range(4)):
            for number in (0, 5, -3):
                self.assertEqual(four_by(lab.STAIRS, octant, number)[at], number)
                self.assertEqual(four_by(lab.STAIRS, lab.opposite(octant), number)[at], number)


class OctantChange(unittest.TestCase):
    def test_beside_l_of_the_two(self):
        for cord in lab.all_kinds():
            for octant in lab.OCTANTS:
                for axis in (1, 2, 3):
                    other = other_octant(octant, axis)
                    told = octant_change(cord, octant, axis)
                    self.assertEqual(told, self_link(cord, octant) - self_link(cord, other))
                    self.assertEqual(octant_change(cord, other, axis), -told)

    def test_by_the_corners_along_the_two_other_axes(self):
        for cord in lab.all_kinds():
            for octant in lab.OCTANTS:
                for axis in (1, 2, 3):
                    n = axis * octant[axis - 1]
                    told = 0
                    for a, b in corner_rows(cord):
                        signs = {along(octant, lab.VECTORS[a]), along(octant, lab.VECTORS[b])}
                        if axis not in (abs(a), abs(b)) and len(signs) == 1:
                            told += lab.det_of(a, b, n) * signs.pop()
                    self.assertEqual(octant_change(cord, octant, axis), told)

    def test_it_is_a_fourth_of_what_the_corners_tell(self):
        for cord in lab.great_cords():
            for octant in lab.OCTANTS:
                for axis in (1, 2, 3):
                    apart = corner_sum(cord, octant) - corner_sum(cord, other_octant(octant, axis))
                    self.assertEqual(4 * octant_change(cord, octant, axis), apart)

    def test_some_by_hand(self):
        self.assertEqual([octant_change(lab.SKEW, (1, 1, 1), axis) for axis in (1, 2, 3)], [1, 1, 2])
        self.assertEqual([octant_change(lab.SQUARE, octant, 3) for octant in lab.OCTANTS], [0] * 8)


if __name__ == "__main__":
    unittest.main()
