"""[5]: spaces.py."""

import itertools
import unittest

import lab
import model
from fourlooks.bands import is_band, plain_band, whole
from fourlooks.cords import is_cord, points
from fourlooks.links import link, link_table
from fourlooks.pushes import self_link
from fourlooks.quarters import quarters
from fourlooks.spaces import all_turns, is_mirror, is_turn, put_together, shifted, turn_back, turned, turned_band

FAR = 10 ** 6
# The TURNS as the tests tell them: each row of three STROKES whose vectors have a determinant.
TURNS = tuple(row for row in itertools.product(lab.STROKES, repeat=3) if lab.det_of(*row) != 0)
CORDS = lab.short_cords()[::9] + lab.great_cords()


def led(vector, turn):
    """Where a TURN leads a vector."""
    parts = [lab.scaled(lab.VECTORS[stroke], number) for number, stroke in zip(vector, turn)]
    return tuple(sum(column) for column in zip(*parts))


class IsTurn(unittest.TestCase):
    def test_all_triples_of_strokes(self):
        for row in itertools.product((-4, 0, 4) + lab.STROKES, repeat=3):
            self.assertIs(is_turn(row), row in TURNS)

    def test_nothing_else_is_one(self):
        bad = lab.NO_CORDS + ((1, 2), (1, 2, 3, 3), (1, 2, 3, 1), ((1,), 2, 3), (True, 2, 3), (1, 2, "3"), (1, 2, None),
                              (1, 2, 10 ** 30), "123", ((1, 2, 3),), (1, 2, (3,)), (-1, 2, False), lab.SQUARE)
        for thing in bad:
            self.assertIs(is_turn(thing), False)

    def test_a_list_is_no_tuple(self):
        for turn in TURNS:
            self.assertIs(is_turn(turn), True)
            self.assertIs(is_turn(list(turn)), False)


class AllTurns(unittest.TestCase):
    def test_all_ascending(self):
        told = all_turns()
        self.assertIs(type(told), list)
        self.assertEqual(told, sorted(TURNS))
        self.assertEqual((len(told), len(set(told))), (48, 48))
        self.assertEqual((told[0], told[-1]), ((-3, -2, -1), (3, 2, 1)))

    def test_each_list_is_new(self):
        first = all_turns()
        first.clear()
        self.assertEqual(all_turns(), sorted(TURNS))

    def test_half_of_them_are_mirrors(self):
        for turn in TURNS:
            self.assertIs(is_mirror(turn), lab.det_of(*turn) == -1)
            self.assertIs(is_mirror(list(turn)), lab.det_of(*turn) == -1)
        self.assertEqual(sum(is_mirror(turn) for turn in all_turns()), 24)


class Turned(unittest.TestCase):
    def test_each_point_goes_where_the_turn_leads_it(self):
        for cord in CORDS:
            for turn in TURNS:
                told = turned(cord, turn)
                self.assertEqual(points(told), tuple(led(spot, turn) for spot in points(cord)))

    def test_stroke_by_stroke(self):
        for turn in TURNS:
            for cord in (lab.COIL, lab.moved(lab.RING, (FAR, -FAR, 7))):
                start, strokes = turned(cord, turn)
                self.assertEqual(start, led(cord[0], turn))
                self.assertEqual([lab.VECTORS[stroke] for stroke in strokes],
                                 [led(lab.VECTORS[stroke], turn) for stroke in cord[1]])

    def test_a_start_off_the_middle(self):
        cord = ((5, 7, -11), (1, 2, -1, -2))
        self.assertEqual(turned(cord, (2, 3, 1)), ((-11, 5, 7), (2, 3, -2, -3)))
        self.assertEqual(turned(cord, (3, 1, 2)), ((7, -11, 5), (3, 1, -3, -1)))
        self.assertEqual(turned(cord, (-3, 2, 1)), ((-11, 7, -5), (-3, 2, 3, -2)))
        self.assertEqual(turned(cord, (1, 2, 3)), cord)

    def test_quarters_links_and_l(self):
        for cord in CORDS[::3]:
            for turn in TURNS:
                sign = -1 if is_mirror(turn) else 1
                told = turned(cord, turn)
                self.assertTrue(is_cord(told))
                self.assertEqual(quarters(told), sign * quarters(cord))
                for octant in lab.FOUR_OCTANTS:
                    self.assertEqual(self_link(told, led(octant, turn)), sign * self_link(cord, octant))

    def test_links_of_turned_cords(self):
        for yard in model.yards()[3:]:
            told = link_table(yard)
            for turn in TURNS[::5] + ((-1, -2, -3), (1, 2, 3)):
                sign = -1 if is_mirror(turn) else 1
                own = link_table([turned(cord, turn) for cord in yard])
                self.assertEqual(own, tuple(tuple(sign * number for number in row) for row in told))
        for turn in TURNS:
            self.assertEqual(link(turned(lab.HOOP, turn), turned(lab.RING, turn)), lab.det_of(*turn))


class Shifted(unittest.TestCase):
    def test_the_numbers_are_added_to_the_start(self):
        for cord in CORDS:
            for by in ((0, 0, 0), (1, 0, 0), (0, 1, 0), (0, 0, 1), (-3, 5, -7), (FAR, -FAR, FAR), (-FAR, 0, 2)):
                told = shifted(cord, by)
                self.assertEqual(told, lab.moved(cord, by))
                self.assertEqual(shifted(told, lab.scaled(by, -1)), cord)


class TurnedBand(unittest.TestCase):
    def test_the_turned_cord_with_the_turns_or_their_contraries(self):
        for cord in CORDS[::2]:
            for band in (plain_band(cord, 2), model.random_band(cord, 3), model.random_band(cord, 7)):
                for turn in TURNS:
                    hand = -1 if is_mirror(turn) else 1
                    told = turned_band(band, turn)
                    self.assertEqual(told, (turned(cord, turn), tuple(hand * own for own in band[1])))
                    self.assertTrue(is_band(told))
                    self.assertEqual(whole(told), hand * whole(band))


class PutTogether(unittest.TestCase):
    def test_one_behind_the_other(self):
        vectors = ((1, 0, 0), (0, 1, 0), (0, 0, 1), (2, -3, 5))
        for one, two in itertools.product(TURNS, repeat=2):
            told = put_together(one, two)
            for vector in vectors:
                self.assertEqual(led(vector, told), led(led(vector, one), two))

    def test_turned_one_by_one_or_at_once(self):
        for one, two in itertools.product(TURNS[::5], TURNS[::3]):
            for cord in (lab.COIL, lab.moved(lab.LOOP, (3, -4, 9))):
                self.assertEqual(turned(turned(cord, one), two), turned(cord, put_together(one, two)))

    def test_turned_back(self):
        for turn in TURNS:
            back = turn_back(turn)
            self.assertTrue(is_turn(back))
            self.assertEqual((put_together(turn, back), put_together(back, turn)), ((1, 2, 3), (1, 2, 3)))
            self.assertEqual([two for two in TURNS if put_together(turn, two) == (1, 2, 3)], [back])
            self.assertIs(is_mirror(back), is_mirror(turn))
            self.assertEqual(turned(turned(lab.LOOP, turn), back), lab.LOOP)

    def test_lists_lead_to_tuples(self):
        for turn in TURNS[::7]:
            self.assertEqual(put_together(list(turn), [2, 3, 1]), put_together(turn, (2, 3, 1)))
            self.assertEqual(turn_back(list(turn)), turn_back(turn))
            self.assertIs(type(put_together(list(turn), [2, 3, 1])), tuple)


if __name__ == "__main__":
    unittest.main()
