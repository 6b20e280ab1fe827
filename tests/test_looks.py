"""[6]: looks.py."""

import itertools
import random
import unittest
from math import gcd

import lab
import model
from fourlooks.errors import NotClean, Unfit
from fourlooks.links import link
from fourlooks.looks import (clean_look, crossings, crossings_between, is_clean, is_look, octant_of, seen,
                             seen_between)
from fourlooks.pushes import self_link
from fourlooks.quarters import quarters, quarters_by

FAR, GREAT = 10 ** 6, 10 ** 9
SMALL_LOOKS = tuple(itertools.product((-3, -2, -1, 1, 2, 3), repeat=3))


def random_looks(rng, many, great):
    return [tuple(rng.choice((1, -1)) * rng.randint(1, great) for _ in range(3)) for _ in range(many)]


def seen_self(cord, look):
    """The crossings of a CORD as the tests tell them; None if the look is not clean."""
    rows = lab.edges(cord)
    if not lab.is_seen_clean((cord,), look):
        return None
    return [(i, j, sign) for i, j, sign in lab.crossings_seen(rows, rows, look) if i < j]


def seen_pair(cord, other, look):
    if not lab.is_seen_clean((cord, other), look):
        return None
    return lab.crossings_seen(lab.edges(cord), lab.edges(other), look)


class IsLook(unittest.TestCase):
    def test_triples_of_numbers_none_of_them_0(self):
        for look in itertools.product((-GREAT, -1, 1, 7, 10 ** 40), repeat=3):
            self.assertIs(is_look(look), True)
            self.assertIs(is_look(list(look)), False)
        for look in itertools.product((0, 1, -5), repeat=3):
            self.assertIs(is_look(look), 0 not in look)

    def test_nothing_else_is_one(self):
        for bad in lab.NO_CORDS + ((1, 2), (1, 2, 3, 4), (1, 2, True), (False, 1, 1), (1, None, 1), (1, "1", 1),
                                   (1, 1, (1,)), (1.0, 1, 1), "111", lab.SQUARE):
            self.assertIs(is_look(bad), False)
            for own in lab.listed(bad):
                self.assertIs(is_look(own), False)

    def test_octants(self):
        for look in itertools.product((-GREAT, -2, -1, 1, 3, GREAT), repeat=3):
            self.assertEqual(octant_of(look), tuple(1 if number > 0 else -1 for number in look))
            self.assertEqual(repr(octant_of(list(look))), repr(octant_of(look)))


class IsClean(unittest.TestCase):
    def test_small_looks_at_short_cords(self):
        told = set()
        for cord in lab.short_cords()[::5]:
            for look in SMALL_LOOKS:
                clean = lab.is_seen_clean((cord,), look)
                self.assertIs(is_clean((cord,), look), clean)
                told.add(clean)
        self.assertEqual(told, {True, False})

    def test_random_looks_at_yards(self):
        rng, told = random.Random(21), []
        for yard in model.yards():
            for great in (4, 12, 40):
                for look in random_looks(rng, 1, great):
                    clean = lab.is_seen_clean(yard, look)
                    self.assertIs(is_clean(yard, look), clean)
                    told.append(clean)
        self.assertGreater(min(told.count(True), told.count(False)), 20)

    def test_an_end_on_a_stroke(self):
        # Of high the stroke along axis 2 from (2, 0, 1) to (2, 1, 1), and its ends.
        low, high = lab.SQUARE, ((0, 0, 1), (1, 1, 2, -1, -1, -2))
        for look, clean in (((3, 1, 2), True), ((2, 1, 2), False), ((4, 1, 2), False), ((3, 2, 2), False),
                            ((5, 1, 2), True), ((3, 3, 2), True), ((-3, -1, -2), True), ((-2, -1, -2), False)):
            for yard in ((low, high), (high, low)):
                self.assertIs(is_clean(yard, look), clean, look)
                self.assertIs(lab.is_seen_clean(yard, look), clean, look)

    def test_a_stroke_behind_one_of_the_same_axis(self):
        high = lab.moved(lab.SQUARE, (0, 3, 5))
        yard = (lab.SQUARE, high)
        # From the line y = 1, z = 0 to y = 3, z = 5, from y = 0 to y = 3, and so on: 2 / 5, 3 / 5, 4 / 5.
        for look, clean in (((7, 2, 5), True), ((3, 2, 5), True), ((1, 2, 5), False), ((-1, 2, 5), False),
                            ((2, 4, 10), False), ((3, 4, 10), True), ((1, 3, 5), False), ((9, 3, 5), True)):
            self.assertIs(is_clean(yard, look), clean, look)
            self.assertIs(is_clean(yard, lab.scaled(look, -1)), clean)
            self.assertIs(lab.is_seen_clean(yard, look), clean)

    def test_a_stroke_that_ends_where_one_of_the_same_axis_begins(self):
        yard = (lab.SQUARE, lab.moved(lab.SQUARE, (3, 7, 5)))
        # From the line y = 1, z = 0 to y = 7, z = 5; from x = 1 to x = 3 are 2, from x = 0 to x = 4 are 4.
        for along, clean in ((1, True), (2, False), (3, False), (4, False), (5, True), (-2, True), (-3, True)):
            self.assertIs(is_clean(yard, (along, 6, 5)), clean, along)
            self.assertIs(lab.is_seen_clean(yard, (along, 6, 5)), clean, along)

    def test_just_clean_and_just_not(self):
        cord = lab.SKEW
        # Stroke 0 lies one below stroke 3: look comes from the one to the other by look / its last number.
        self.assertIs(is_clean((cord,), (GREAT - 1, GREAT - 1, GREAT)), True)
        self.assertIs(is_clean((cord,), (GREAT, GREAT - 1, GREAT)), False)
        self.assertIs(is_clean((cord,), (GREAT, GREAT, GREAT)), False)
        self.assertIs(is_clean((cord,), (GREAT - 1, GREAT - 2, GREAT)), True)
        for look in itertools.product((GREAT, GREAT - 1, GREAT - 2, 1 - GREAT, -GREAT), repeat=3):
            self.assertIs(is_clean((cord,), look), lab.is_seen_clean((cord,), look))

    def test_not_clean_by_a_point_of_another_cord(self):
        for look in ((3, 4, 5), (5, 6, 7), (2, 3, 7)):
            self.assertIs(is_clean((lab.SKEW,), look), True)
            far = lab.moved(lab.SQUARE, look)
            self.assertIs(is_clean((far,), look), True)
            self.assertIs(is_clean((lab.SKEW, far), look), False)
            self.assertIs(is_clean((far, lab.SKEW), look), False)
            self.assertIs(is_clean((lab.SKEW, lab.moved(far, (0, 0, 20))), look), True)

    def test_each_cord_of_the_yard_counts(self):
        for yard in (model.yards()[6], lab.CHAIN):
            look = (1, 1, 1)
            for at in range(len(yard)):
                flat = tuple(lab.moved(lab.SQUARE, (40 * k, -70 * k, 0)) for k in range(len(yard)))
                self.assertIs(is_clean(flat, look), True)
                # SKEW far off is not clean by itself.
                own = flat[:at] + (lab.moved(lab.SKEW, (50, 60, 90)),) + flat[at + 1:]
                self.assertIs(is_clean(own, look), False)

    def test_alike_for_the_contrary_and_for_more_of_it(self):
        rng = random.Random(22)
        for yard in model.yards()[::3]:
            for look in random_looks(rng, 3, 15):
                told = is_clean(yard, look)
                self.assertIs(is_clean(yard, lab.scaled(look, -1)), told)
                self.assertIs(is_clean(yard, lab.scaled(look, 7)), told)
                self.assertIs(is_clean(tuple(reversed(yard)), look), told)


class Crossings(unittest.TestCase):
    def test_short_cords_by_small_looks(self):
        for cord in lab.short_cords()[::6]:
            for look in SMALL_LOOKS[::2]:
                told = seen_self(cord, look)
                if told is None:
                    for function in (crossings, seen):
                        with self.assertRaises(NotClean) as caught:
                            function(cord, look)
                        self.assertEqual(vars(caught.exception), {})
                else:
                    self.assertEqual(crossings(cord, look), told)
                    self.assertEqual(seen(cord, look), sum(row[2] for row in told))

    def test_great_cords_by_random_looks(self):
        rng, many = random.Random(23), 0
        for cord in lab.great_cords():
            for great in (9, 60, GREAT):
                look = random_looks(rng, 1, great)[0]
                told = seen_self(cord, look)
                if told is None:
                    with self.assertRaises(NotClean):
                        crossings(cord, look)
                else:
                    many += len(told) > 0
                    self.assertEqual(crossings(cord, look), told)
                    self.assertEqual(crossings(cord, look), sorted(told))
                    self.assertEqual(seen(cord, look), sum(row[2] for row in told))
        self.assertGreater(many, 30)

    def test_wherever_begun_and_whichever_way_gone(self):
        look = (17, -23, 41)
        for cord in (lab.SKEW, lab.STAIRS, lab.LOOP, lab.TWICE):
            told, many = crossings(cord, look), len(cord[1])
            for place in range(many):
                own = sorted((*sorted(((i - place) % many, (j - place) % many)), sign) for i, j, sign in told)
                self.assertEqual(crossings(lab.begun_at(cord, place), look), own)
            back = sorted((many - 1 - j, many - 1 - i, sign) for i, j, sign in told)
            self.assertEqual(crossings(lab.told_back(cord), look), back)

    def test_several_looks_of_one_octant_and_of_the_opposite_one(self):
        for cord in lab.short_cords()[::4] + lab.great_cords()[::2]:
            for octant in lab.OCTANTS:
                look = clean_look((cord,), octant)
                told = self_link(cord, octant)
                self.assertEqual((seen(cord, look), seen(cord, lab.scaled(look, -1))), (told, told))

    def test_what_random_clean_looks_see(self):
        rng = random.Random(24)
        for cord in (lab.COIL, lab.SKEW, lab.LOOP, lab.STAIRS, lab.TWICE) + lab.great_cords()[10:14]:
            for look in random_looks(rng, 60, 1000):
                if is_clean((cord,), look):
                    self.assertEqual(seen(cord, look), self_link(cord, octant_of(look)))

    def test_quarters_by_what_is_seen_and_the_corners(self):
        for cord in lab.all_kinds()[::2]:
            told = quarters(cord)
            for octant in lab.OCTANTS:
                look = clean_look((cord,), octant)
                self.assertEqual(quarters_by(cord, octant, seen(cord, look)), told)

    def test_moved_far_off(self):
        by = (FAR, -FAR, FAR)
        for cord in lab.great_cords()[::4]:
            look = clean_look((cord,), (1, -1, 1))
            self.assertEqual(crossings(lab.moved(cord, by), look), crossings(cord, look))

    def test_not_clean_ahead_of_what_is_seen_elsewhere(self):
        with self.assertRaises(NotClean):
            seen(lab.SKEW, (1, 1, 1))
        with self.assertRaises(NotClean):
            crossings(lab.STAIRS, (1, 1, 1))


class CrossingsBetween(unittest.TestCase):
    def test_pairs_of_yards(self):
        rng, many = random.Random(25), 0
        for yard in model.yards():
            for one, two in itertools.permutations(yard[:3], 2):
                for great in (7, 1000):
                    look = random_looks(rng, 1, great)[0]
                    told = seen_pair(one, two, look)
                    if told is None:
                        for function in (crossings_between, seen_between):
                            with self.assertRaises(NotClean) as caught:
                                function(one, two, look)
                            self.assertEqual(vars(caught.exception), {})
                    else:
                        many += len(told) > 0
                        self.assertEqual(crossings_between(one, two, look), told)
                        self.assertEqual(seen_between(one, two, look), sum(row[2] for row in told))
        self.assertGreater(many, 40)

    def test_a_sign_is_alike_for_both_orders(self):
        rng = random.Random(26)
        for yard in model.yards():
            for one, two in itertools.combinations(yard, 2):
                for look in random_looks(rng, 2, GREAT):
                    if is_clean((one, two), look):
                        told = crossings_between(one, two, look)
                        turned = sorted((i, j, sign) for j, i, sign in told)
                        self.assertEqual(crossings_between(two, one, look), turned)
                        self.assertEqual(crossings_between(one, two, lab.scaled(look, -1)), told)

    def test_twice_the_link_by_clean_looks_of_all_octants(self):
        for yard in model.yards():
            for one, two in itertools.combinations(yard, 2):
                for octant in lab.OCTANTS:
                    look = clean_look((one, two), octant)
                    told = (seen_between(one, two, look), seen_between(two, one, look))
                    self.assertEqual(told, (2 * link(one, two),) * 2)

    def test_not_clean_within_one_of_the_cords(self):
        far = lab.moved(lab.SQUARE, (40, -30, 20))
        for one, two in ((lab.SKEW, far), (far, lab.SKEW)):
            with self.assertRaises(NotClean):
                crossings_between(one, two, (1, 1, 1))
            with self.assertRaises(NotClean):
                seen_between(one, two, (1, 1, 1))
            self.assertEqual(crossings_between(one, two, (3, 4, 5)), [])

    def test_a_common_point_is_unfit_ahead_of_not_clean(self):
        for one, two in ((lab.HOOP, lab.SQUARE), (lab.SKEW, lab.SKEW), (lab.STAIRS, lab.LONG),
                         (lab.SKEW, lab.moved(lab.SQUARE, (1, 1, 1)))):
            for look in ((5, 6, 7), (1, 1, 1)):
                for function in (crossings_between, seen_between):
                    with self.assertRaises(Unfit) as caught:
                        function(one, two, look)
                    self.assertEqual(vars(caught.exception), {})

    def test_between_alone_is_told(self):
        # SKEW crosses itself by this look, and nothing else.
        far = lab.moved(lab.SKEW, (40, -30, 20))
        self.assertEqual(crossings(lab.SKEW, (3, 4, 5)), [(0, 3, 1)])
        self.assertEqual(crossings_between(lab.SKEW, far, (3, 4, 5)), [])


class CleanLook(unittest.TestCase):
    def test_a_clean_look_of_each_octant(self):
        for yard in model.yards():
            for octant in lab.OCTANTS:
                look = clean_look(yard, octant)
                self.assertTrue(is_look(look))
                self.assertEqual(octant_of(look), octant)
                self.assertTrue(is_clean(yard, look))
                self.assertTrue(lab.is_seen_clean(yard, look))
                self.assertLessEqual(max(map(abs, look)), GREAT)

    def test_a_clean_look_of_each_cord(self):
        for cord in lab.all_kinds():
            for octant in lab.OCTANTS[::3]:
                self.assertTrue(lab.is_seen_clean((cord,), clean_look((cord,), octant)))

    def test_three_great_numbers_without_common_divisors_are_clean(self):
        rng = random.Random(27)
        for yard in model.yards():
            spots = [spot for cord in yard for spot in lab.walk(cord)]
            wide = max(max(column) - min(column) for column in zip(*spots))
            looks = [look for look in random_looks(rng, 60, 3 * wide + 60) if min(map(abs, look)) > wide
                     and all(gcd(a, b) == 1 for a, b in itertools.combinations(look, 2))]
            self.assertGreater(len(looks), 0)
            for look in looks:
                self.assertTrue(is_clean(yard, look))

    def test_of_yards_that_are_a_stroke_wide_or_wider(self):
        for wide in range(1, 19):
            row = ((0, 0, 0), (1,) * wide + (2,) + (-1,) * wide + (-2,))
            for other in (lab.moved(row, (0, 0, wide)), lab.moved(row, (0, wide + 1, 3))):
                for octant in lab.OCTANTS:
                    self.assertTrue(lab.is_seen_clean((row, other), clean_look((row, other), octant)))


if __name__ == "__main__":
    unittest.main()
