"""[12]: bands.py."""

import random
import unittest

import lab
import model
from fourlooks.bands import (band_back, band_begun, is_band, needed, plain_band, same_band, slid, whole)
from fourlooks.errors import NoPlace, Unfit
from fourlooks.quarters import quarters

FAR = 10 ** 6
CORDS = lab.short_cords()[::7] + lab.great_cords()


def some_bands(cord):
    return plain_band(cord, 0), plain_band(cord, -3), model.random_band(cord, 1), model.random_band(cord, 2)


class IsBand(unittest.TestCase):
    def test_cord_and_turns_are_one_exactly_if_a_side_comes_home_as_it_was(self):
        rng = random.Random(12)
        for cord in lab.all_kinds():
            home = model.home_of(cord)
            for more in range(-4, 5):
                turns = [rng.randint(-20, 20) for _ in cord[1]]
                turns[rng.randrange(len(turns))] += more - home - sum(turns)
                self.assertIs(is_band((cord, tuple(turns))), more % 4 == 0)

    def test_a_multiple_of_four_with_quarters(self):
        for cord in CORDS:
            own = quarters(cord)
            for number in range(-9, 9):
                turns = (number,) + (0,) * (len(cord[1]) - 1)
                self.assertIs(is_band((cord, turns)), (number + own) % 4 == 0)

    def test_nothing_else_is_one(self):
        for at, bad in enumerate(lab.NO_BANDS):
            with self.subTest(at=at):
                self.assertIs(is_band(bad), False)
            for own in lab.listed(bad):
                self.assertIs(is_band(own), False)

    def test_lists_are_no_tuples(self):
        for band in (lab.FLAT, lab.WOUND):
            self.assertIs(is_band(band), True)
            for own in lab.listed(band):
                self.assertIs(is_band(own), False)

    def test_true_is_no_number(self):
        self.assertIs(is_band((lab.COIL, (1,) + (0,) * 7)), True)
        self.assertIs(is_band((lab.COIL, (True,) + (0,) * 7)), False)
        self.assertIs(is_band((lab.SQUARE, (0, 0, 0, False))), False)

    def test_however_many_strokes_and_whatever_numbers(self):
        many = 20000
        long = ((0, 0, 0), (1,) * many + (3,) + (-1,) * many + (-3,))
        turns = (4,) * (2 * many + 1)
        self.assertIs(is_band((long, turns + (10 ** 40,))), True)
        self.assertIs(is_band((long, turns + (10 ** 40 + 1,))), False)
        self.assertIs(is_band((long, turns)), False)


class Whole(unittest.TestCase):
    def test_turns_and_quarters_by_four(self):
        for cord in lab.all_kinds():
            for band in some_bands(cord)[2:]:
                self.assertEqual(4 * whole(band), sum(band[1]) + quarters(cord))

    def test_beside_the_crossings_of_the_cord_with_its_edge(self):
        rng = random.Random(13)
        for cord in lab.short_cords()[::3] + lab.great_cords()[::5]:
            band = model.random_band(cord, 5)
            self.assertEqual(whole(band), model.winding(rng, band))

    def test_beside_the_edge_without_turns_and_with_few(self):
        rng = random.Random(14)
        for cord in lab.short_cords()[:60:2] + (lab.STAIRS, lab.LOOP, lab.RING, lab.TWICE, lab.LONG_RING):
            for number in (-1, 0, 2):
                band = plain_band(cord, number)
                self.assertEqual(model.winding(rng, band), number)

    def test_a_whole_turn_more_is_one_more_in_whichever_stroke(self):
        for cord in CORDS[::3]:
            band = model.random_band(cord, 9)
            for place in range(len(cord[1])):
                for more in (4, -4, 40, -4 * FAR):
                    turns = band[1][:place] + (band[1][place] + more,) + band[1][place + 1:]
                    self.assertEqual(whole((cord, turns)), whole(band) + more // 4)

    def test_great_turns(self):
        self.assertEqual(whole((lab.SQUARE, (FAR, FAR, -FAR, FAR))), FAR // 2)
        self.assertEqual(whole((lab.COIL, (-FAR,) * 7 + (1,))), -7 * FAR // 4)

    def test_moved_it_stays(self):
        for by in ((FAR, -FAR, FAR), (-FAR, 0, 1)):
            for cord in CORDS[::4]:
                band = model.random_band(cord, 4)
                self.assertEqual(whole((lab.moved(cord, by), band[1])), whole(band))


class PlainBand(unittest.TestCase):
    def test_all_turns_are_0_but_the_last_one(self):
        for cord in lab.all_kinds():
            for number in (0, 1, -1, 5, FAR, -FAR):
                told = plain_band(cord, number)
                self.assertEqual((told[0], told[1][:-1]), (cord, (0,) * (len(cord[1]) - 1)))
                self.assertTrue(is_band(told))
                self.assertEqual(whole(told), number)


class Slid(unittest.TestCase):
    def test_more_here_less_behind(self):
        for cord in CORDS:
            for band in some_bands(cord)[2:]:
                for place in range(len(cord[1]) - 1):
                    for number in (0, 1, -5, FAR):
                        turns = list(band[1])
                        turns[place] += number
                        turns[place + 1] -= number
                        told = slid(band, place, number)
                        self.assertEqual(told, (cord, tuple(turns)))
                        self.assertEqual(slid(told, place, -number), band)

    def test_a_slid_band_has_the_same_s(self):
        for cord in CORDS[::3]:
            band = model.random_band(cord, 6)
            for place in range(len(cord[1]) - 1):
                told = slid(band, place, 3 * place - 7)
                self.assertTrue(is_band(told))
                self.assertEqual(whole(told), whole(band))

    def test_equal_s_by_slides_alone(self):
        for cord in CORDS[::4]:
            band, other = model.random_band(cord, 7), model.random_band(cord, 8)
            goal = (cord, other[1][:-1] + (other[1][-1] + 4 * (whole(band) - whole(other)),))
            led = band
            for place in range(len(cord[1]) - 1):
                led = slid(led, place, goal[1][place] - led[1][place])
            self.assertEqual(led, goal)
            self.assertEqual(whole(led), whole(band))

    def test_no_such_place(self):
        for cord in (lab.SQUARE, lab.COIL, lab.LONG):
            many, band = len(cord[1]), plain_band(cord, 1)
            for place in (-1, -2, -many, many, many + 1, FAR, -FAR):
                with self.assertRaises(NoPlace) as caught:
                    slid(band, place, 1)
                self.assertEqual(vars(caught.exception), {"place": place})
            with self.assertRaises(NoPlace) as caught:
                slid(band, many - 1, 1)
            self.assertEqual(vars(caught.exception), {"place": many})
            self.assertEqual(slid(band, many - 2, 1)[1][many - 2:], (1, band[1][-1] - 1))


class BandBegun(unittest.TestCase):
    def test_turns_go_along(self):
        for cord in CORDS:
            band = model.random_band(cord, 10)
            for place in range(len(cord[1])):
                told = band_begun(band, place)
                self.assertEqual(told, (lab.begun_at(cord, place), band[1][place:] + band[1][:place]))
                self.assertTrue(is_band(told))
                self.assertEqual(whole(told), whole(band))
            self.assertEqual(band_begun(band, 0), band)

    def test_no_such_place(self):
        for cord in (lab.SQUARE, lab.COIL, lab.LONG):
            many, band = len(cord[1]), plain_band(cord, 0)
            for place in (-1, many, many + 5, -FAR):
                with self.assertRaises(NoPlace) as caught:
                    band_begun(band, place)
                self.assertEqual(vars(caught.exception), {"place": place})


class BandBack(unittest.TestCase):
    def test_the_other_way_round(self):
        for cord in lab.all_kinds():
            band = model.random_band(cord, 11)
            told = band_back(band)
            self.assertEqual(told, (lab.told_back(cord), tuple(reversed(band[1]))))
            self.assertTrue(is_band(told))
            self.assertEqual(whole(told), whole(band))
            self.assertEqual(band_back(told), band)


class SameBand(unittest.TestCase):
    def test_equal_cords_and_equal_s(self):
        for cord in CORDS:
            bands = some_bands(cord)
            for one in bands:
                for two in bands:
                    self.assertIs(same_band(one, two), whole(one) == whole(two))
                self.assertIs(same_band(one, slid(one, 0, 5)), True)
                self.assertIs(same_band(one, (cord, (one[1][0] + 4,) + one[1][1:])), False)
                self.assertIs(same_band(one, (cord, (one[1][0] - 4,) + one[1][1:])), False)

    def test_another_start_is_another_cord(self):
        for cord in CORDS:
            band = model.random_band(cord, 3)
            self.assertIs(same_band(band, (lab.moved(cord, (0, 1, 0)), band[1])), False)
            self.assertIs(same_band(band, band_begun(band, 1)), False)
            self.assertIs(same_band(band, band_back(band)), False)
            self.assertIs(same_band(band_begun(band, 1), band_begun(band, 1)), True)


class Needed(unittest.TestCase):
    def test_what_is_to_be_put_to_the_last_turn(self):
        rng = random.Random(16)
        for cord in lab.all_kinds():
            for _ in range(4):
                turns = tuple(rng.randint(-30, 30) for _ in cord[1])
                told = needed(cord, turns)
                self.assertIn(told, (0, 1, 2, 3))
                for more in (0, 1, 2, 3):
                    self.assertIs(is_band((cord, turns[:-1] + (turns[-1] + more,))), more == told)

    def test_great_turns(self):
        self.assertEqual(needed(lab.SQUARE, (FAR, FAR, FAR, 1 - FAR)), 3)
        self.assertEqual(needed(lab.COIL, (-FAR,) * 8), 1)

    def test_what_is_no_turns_is_unfit(self):
        for bad in lab.NO_TURNS:
            for own in [bad] + lab.listed(bad):
                with self.assertRaises(Unfit) as caught:
                    needed(lab.SQUARE, own)
                self.assertEqual(vars(caught.exception), {})
        for cord in CORDS[::5]:
            many = len(cord[1])
            for turns in ((0,) * (many - 1), (0,) * (many + 1), (0,) * (many - 1) + (True,)):
                with self.assertRaises(Unfit):
                    needed(cord, turns)


if __name__ == "__main__":
    unittest.main()
