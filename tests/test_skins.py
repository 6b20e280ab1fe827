"""[8]: skins.py."""

import itertools
import random
import unittest
from collections import Counter

import lab
import model
from fourlooks.links import link
from fourlooks.pushes import self_link
from fourlooks.skins import is_skin, is_square, met, rim, skin, skins_added

FAR = 10 ** 6
ROUND = {1: (2, 3, -2, -3), 2: (3, 1, -3, -1), 3: (1, 2, -1, -2)}
CORDS = lab.short_cords()[::5] + lab.great_cords()


def line_of(spot, stroke):
    """The stroke of space, told by its end of the lesser numbers and its axis, and whether it is gone on or back."""
    new = lab.added(spot, lab.VECTORS[stroke])
    return (min(spot, new), abs(stroke)), 1 if stroke > 0 else -1


def rim_told(pairs):
    """The rim of a skin, each SQUARE gone round from its corner."""
    totals = Counter()
    for (point, axis), number in pairs:
        spot = point
        for stroke in ROUND[axis]:
            line, sign = line_of(spot, stroke)
            totals[line] += sign * number
            spot = lab.added(spot, lab.VECTORS[stroke])
        assert spot == point
    return tuple(sorted(line + (number,) for line, number in totals.items() if number))


def lines_of(cord):
    """The strokes of a CORD as a rim."""
    found = []
    for spot, stroke in zip(lab.walk(cord), cord[1]):
        line, sign = line_of(spot, stroke)
        found.append(line + (sign,))
    return tuple(sorted(found))


def met_told(pairs, cord, octant):
    """How often the CORD, four times as great and moved by one into octant, goes through the skin."""
    total = 0
    for begin, end in lab.edges(cord, 4, octant):
        for (point, axis), number in pairs:
            corner = lab.scaled(point, 4)
            at = axis - 1
            inside = all(corner[k] < begin[k] < corner[k] + 4 and begin[k] == end[k] for k in range(3) if k != at)
            if inside and min(begin[at], end[at]) < corner[at] < max(begin[at], end[at]):
                total += number if end[at] > begin[at] else -number
    return total


def random_skin(rng, many, wide=3, great=4):
    pairs = {(tuple(rng.randint(-wide, wide) for _ in range(3)), rng.randint(1, 3)): rng.choice((1, -1)) *
             rng.randint(1, great) for _ in range(many)}
    return tuple(sorted(pairs.items()))


def box(low, sizes, number=1):
    """The skin of a box: it has no rim."""
    totals = Counter()
    for spot in itertools.product(*(range(a, a + wide) for a, wide in zip(low, sizes))):
        for axis in (1, 2, 3):
            totals[(spot, axis)] -= number
            totals[(lab.added(spot, lab.VECTORS[axis]), axis)] += number
    return tuple(sorted((square, own) for square, own in totals.items() if own))


BOXES = (box((0, 0, 0), (1, 1, 1)), box((-1, -1, -1), (3, 4, 2)), box((0, -2, 1), (5, 5, 1), -3),
         box((-8, -8, -8), (3, 20, 2), FAR))


class IsSquare(unittest.TestCase):
    def test_a_point_and_an_axis(self):
        for point in ((0, 0, 0), (-5, FAR, 10 ** 40)):
            for axis in range(-4, 6):
                self.assertIs(is_square((point, axis)), axis in (1, 2, 3))
                for own in lab.listed((point, axis)):
                    self.assertIs(is_square(own), False)

    def test_nothing_else_is_one(self):
        for bad in lab.NO_CORDS + (((0, 0, 0), True), ((0, 0, 0), "1"), ((0, 0, 0), None), ((0, 0, 0), (1,)),
                                   ((0, 0, 0), 1, 1), ((0, 0, 0),), ((0, 0), 1), ((0, 0, 0, 0), 1), (0, 1),
                                   ((0, 0, False), 1), (1, (0, 0, 0)), ((0, 0, 0), 1.0), (None, 1), lab.SQUARE):
            self.assertIs(is_square(bad), False)


class Rim(unittest.TestCase):
    def test_one_square_of_each_axis(self):
        self.assertEqual(rim([(((1, 0, 0), 1), 1)]),
                         (((1, 0, 0), 2, 1), ((1, 0, 0), 3, -1), ((1, 0, 1), 2, -1), ((1, 1, 0), 3, 1)))
        self.assertEqual(rim([(((0, 0, 0), 2), 1)]),
                         (((0, 0, 0), 1, -1), ((0, 0, 0), 3, 1), ((0, 0, 1), 1, 1), ((1, 0, 0), 3, -1)))
        self.assertEqual(rim([(((0, 0, 0), 3), -7)]),
                         (((0, 0, 0), 1, -7), ((0, 0, 0), 2, 7), ((0, 1, 0), 1, 7), ((1, 0, 0), 2, -7)))

    def test_rims_of_random_skins(self):
        rng = random.Random(41)
        for many in (1, 2, 5, 20, 80):
            for _ in range(20):
                own = random_skin(rng, many)
                self.assertEqual(rim(own), rim_told(own))

    def test_a_rim_is_a_set(self):
        told = rim(random_skin(random.Random(42), 60))
        self.assertEqual(told, tuple(sorted(set(told))))
        self.assertIs(type(told), tuple)
        self.assertTrue(all(number != 0 for _, _, number in told))

    def test_of_nothing_and_of_what_is_closed(self):
        self.assertEqual(rim(()), ())
        for own in BOXES:
            self.assertEqual(rim(own), ())

    def test_far_off_and_great(self):
        rng = random.Random(43)
        own = tuple((((lab.added(point, (FAR, -FAR, FAR))), axis), number * FAR)
                    for (point, axis), number in random_skin(rng, 2000, 12))
        self.assertGreater(len(own), 1800)
        self.assertEqual(rim(own), rim_told(own))


class Skin(unittest.TestCase):
    def test_its_rim_goes_along_the_cord(self):
        for cord in lab.all_kinds():
            told = skin(cord)
            self.assertEqual(rim_told(told), lines_of(cord))
            self.assertIs(is_skin(cord, told), True)

    def test_it_is_a_set_of_squares_with_numbers(self):
        for cord in lab.all_kinds():
            told = skin(cord)
            squares = [square for square, _ in told]
            self.assertIs(type(told), tuple)
            self.assertEqual(squares, sorted(set(squares)))
            self.assertTrue(all(is_square(square) for square in squares))
            self.assertTrue(all(type(number) is int and number for _, number in told))

    def test_turned_mirrored_told_back_and_far(self):
        for cord in CORDS:
            for own in (lab.told_back(cord), lab.mirrored(cord, 1), lab.mirrored(cord, 2), lab.mirrored(cord, 3),
                        lab.turned_round(cord), lab.turned_round(lab.turned_round(cord)), lab.begun_at(cord, 1),
                        lab.moved(cord, (-FAR, FAR, -FAR))):
                self.assertEqual(rim_told(skin(own)), lines_of(own))


class IsSkin(unittest.TestCase):
    def test_skins_and_skins_with_what_is_closed(self):
        for cord in CORDS[::3]:
            for own in BOXES:
                totals = Counter(dict(skin(cord)))
                for square, number in own:
                    totals[square] += number
                more = tuple(sorted((square, number) for square, number in totals.items() if number))
                self.assertIs(is_skin(cord, more), True)

    def test_random_sets_are_judged_by_their_rims(self):
        rng = random.Random(44)
        for cord in CORDS[::6]:
            told = skin(cord)
            self.assertIs(is_skin(cord, tuple((square, -number) for square, number in told)), False)
            self.assertIs(is_skin(lab.told_back(cord), tuple((square, -number) for square, number in told)), True)
            for at in range(len(told)):
                square, number = told[at]
                for new in ((), ((square, number + rng.choice((1, -1)) or 2),), ((square, 2 * number),),
                            ((((square[0][0], square[0][1], square[0][2] + 1), square[1]), number),)):
                    own = told[:at] + new + told[at + 1:]
                    self.assertIs(is_skin(cord, own), rim_told(own) == lines_of(cord) and list(own) == sorted(set(own))
                                  and len({pair[0] for pair in own}) == len(own))

    def test_no_set(self):
        cord, told = lab.HOOP, skin(lab.HOOP)
        self.assertIs(is_skin(cord, told), True)
        for order in itertools.permutations(told):
            self.assertIs(is_skin(cord, order), order == told)
        one, two = told[0], ((told[0][0], told[0][1] + 1), (told[0][0], -1))
        self.assertIs(is_skin(cord, tuple(sorted(two)) + told[1:]), False)
        self.assertIs(is_skin(cord, ((one[0], one[1] - 1), (one[0], 1)) + told[1:]), False)
        self.assertIs(is_skin(cord, (one,) + told), False)
        self.assertIs(is_skin(cord, tuple(sorted(told + ((((9, 9, 9), 1), 0),)))), False)

    def test_nothing_and_less_than_a_pair(self):
        for cord in (lab.SQUARE, lab.SKEW, lab.STAIRS):
            told = skin(cord)
            for bad in ((), told[1:], told[:-1], told[0], (told,), told + (None,), (None,) + told, told + ((),),
                        told + ((told[0][0],),), told + ((((50, 0, 0), 1), 1, 1),), told + ((((50, 0, 0), 4), 1),),
                        told + ((((50, 0, 0), 1), True),), told + ((((50, 0, 0), 1), None),),
                        told + ((((50, 0, 0), 1), "1"),), told + ((50, 1),), told + (5,), told + ("ab",)):
                self.assertIs(is_skin(cord, bad), False)

    def test_true_is_no_number(self):
        told = skin(lab.SQUARE)
        self.assertEqual([abs(number) for _, number in told], [1])
        cord = lab.SQUARE if told[0][1] == 1 else lab.told_back(lab.SQUARE)
        self.assertIs(is_skin(cord, ((told[0][0], 1),)), True)
        self.assertIs(is_skin(cord, ((told[0][0], True),)), False)

    def test_things_of_any_kind(self):
        for bad in lab.NO_STANDS + lab.NO_YARDS:
            self.assertIs(is_skin(lab.SQUARE, bad), False)

    def test_of_whatever_size(self):
        many = 3000
        long = ((0, 0, 0), (1,) * many + (2,) + (-1,) * many + (-2,))
        told = tuple((((x, 0, 0), 3), 1) for x in range(many))
        self.assertIs(is_skin(long, told), True)
        self.assertIs(is_skin(long, told[:-1]), False)
        self.assertIs(is_skin(long, told + ((((many, 0, 0), 3), 10 ** 40),)), False)


class Met(unittest.TestCase):
    def test_random_skins_by_all_octants(self):
        rng = random.Random(45)
        seen = Counter()
        for cord in CORDS[::2]:
            for many in (3, 60, 200):
                own = random_skin(rng, many)
                for octant in lab.OCTANTS:
                    told = met_told(own, cord, octant)
                    self.assertEqual(met(own, cord, octant), told)
                    seen[told != 0] += 1
        self.assertGreater(min(seen.values()), 40)

    def test_one_stroke_and_one_square_by_each_octant(self):
        for stroke in lab.STROKES:
            for octant in lab.OCTANTS:
                axis = abs(stroke)
                side = axis % 3 + 1
                cord = ((0, 0, 0), (stroke, side, -stroke, -side))
                hits = [(square, met([(square, 5)], cord, octant)) for square in
                        itertools.product(itertools.product(range(-2, 3), repeat=3), (axis,))]
                hits = [(square, number) for square, number in hits if number]
                self.assertEqual(len(hits), 2)
                self.assertEqual(sorted(number for _, number in hits), [-5, 5])

    def test_a_skin_of_one_cord_met_of_another_one_is_their_link(self):
        for yard in model.yards():
            for one, two in itertools.permutations(yard[:3], 2):
                told = link(one, two)
                for octant in lab.OCTANTS:
                    self.assertEqual(met(skin(one), two, octant), told)

    def test_a_skin_met_of_its_own_cord_is_l(self):
        for cord in lab.all_kinds():
            own = skin(cord)
            for octant in lab.OCTANTS:
                self.assertEqual(met(own, cord, octant), self_link(cord, octant))

    def test_what_is_closed_is_met_0_times(self):
        for own in BOXES:
            for cord in CORDS:
                for octant in lab.OCTANTS[::3]:
                    self.assertEqual(met(own, cord, octant), 0)

    def test_nothing_is_met_0_times(self):
        self.assertEqual([met((), cord, (1, 1, 1)) for cord in CORDS[:9]], [0] * 9)

    def test_far_off(self):
        by = (FAR, -FAR, FAR)
        for cord in lab.great_cords()[::3]:
            own = tuple(((lab.added(point, by), axis), number) for (point, axis), number in skin(lab.TWICE))
            self.assertEqual(met(own, lab.moved(cord, by), (1, -1, 1)), met(skin(lab.TWICE), cord, (1, -1, 1)))


class SkinsAdded(unittest.TestCase):
    def test_square_by_square(self):
        rng = random.Random(46)
        for many in (0, 1, 4, 30, 300):
            for _ in range(10):
                one, two = random_skin(rng, many, 2, 2), random_skin(rng, rng.randint(0, 40), 2, 2)
                totals = Counter(dict(one))
                for square, number in two:
                    totals[square] += number
                told = tuple(sorted((square, number) for square, number in totals.items() if number))
                self.assertEqual(skins_added(one, two), told)
                self.assertEqual(skins_added(two, one), told)

    def test_what_comes_to_0_is_gone(self):
        own = random_skin(random.Random(47), 40)
        self.assertEqual(skins_added(own, tuple((square, -number) for square, number in own)), ())
        self.assertEqual(skins_added(own, ()), own)
        self.assertEqual(skins_added((), own), own)
        self.assertEqual(skins_added((), ()), ())
        self.assertEqual(skins_added(own, own), tuple((square, 2 * number) for square, number in own))

    def test_rims_are_added_too(self):
        for cord in CORDS[::5]:
            for own in BOXES:
                self.assertIs(is_skin(cord, skins_added(skin(cord), own)), True)


if __name__ == "__main__":
    unittest.main()
