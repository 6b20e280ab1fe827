"""[16]: hops.py."""

import unittest
from collections import Counter

import lab
import model
import walks
from fourlooks.bands import whole
from fourlooks.deeds import can_do, done
from fourlooks.errors import NoBand
from fourlooks.hops import hop_below, hop_sign, hops
from fourlooks.links import link_table
from fourlooks.quarters import quarters

FAR = 10 ** 6


def cords_of(stand):
    return tuple(cord for cord, _ in stand)


def doable(stand, number):
    """The hops and backs of a BAND that the tests find."""
    found = []
    for deed in model.strand_deeds(cords_of(stand), ("hop", "back")):
        if deed[1] == number:
            try:
                model.bent_cord(cords_of(stand), deed)
            except model.Refused:
                continue
            found.append(deed)
    return sorted(found)


def all_hops():
    """The STANDS with the hops and backs that can be done in them."""
    return [(stand, deed) for stand in model.stands() for number in range(len(stand)) for deed in doable(stand, number)]


def row_of(cord, deed):
    """The strokes of a hop or back: p, a, b, n."""
    strokes = cord[1]
    place, end = deed[2], deed[2] + model.WANTED[deed[0]]
    a, b = (strokes[place], deed[3]) if deed[0] == "hop" else (strokes[place + 2], strokes[place])
    return strokes[place - 1], a, b, strokes[end % len(strokes)]


class Hops(unittest.TestCase):
    def test_beside_all_places_and_sides_that_are_tried(self):
        words = Counter()
        for stand in model.stands():
            for number in range(len(stand)):
                told = hops(stand, number)
                self.assertEqual(told, doable(stand, number))
                self.assertIs(type(told), list)
                words.update(deed[0] for deed in told)
        self.assertGreater(min(words["hop"], words["back"]), 10)

    def test_backs_and_hops_of_one_band_ascending(self):
        far = (lab.moved(model.SILL, (0, 0, 9)), lab.moved(model.STRAND, (0, 0, 9)))
        stand = model.stand_of((model.LIFTED, model.STRAND) + far)
        # STRAND goes over both edges of the sill: over the one that is lifted no more.
        self.assertEqual(hops(stand, 0), [("back", 0, 0), ("hop", 0, 7, 3)])
        self.assertEqual(hops(stand, 2), [("hop", 2, 0, 3), ("hop", 2, 3, 3)])
        # STRAND itself can hop over the strokes that go round it and over the other edge.
        self.assertEqual(hops(stand, 1), [("hop", 1, 0, -3), ("hop", 1, 1, -1), ("hop", 1, 1, 1), ("hop", 1, 1, 3)])

    def test_each_list_is_new(self):
        stand = (lab.BAND_LOW, lab.BAND_HIGH)
        first = hops(stand, 1)
        first.clear()
        self.assertEqual(hops(stand, 1), [("hop", 1, 0, -3)])

    def test_no_such_band(self):
        for stand in model.stands()[::6]:
            for number in (-1, len(stand), FAR, -FAR):
                with self.assertRaises(NoBand) as caught:
                    hops(stand, number)
                self.assertEqual(vars(caught.exception), {"number": number})


class SignAndBelow(unittest.TestCase):
    def test_beside_what_the_tests_tell(self):
        signs, overs = Counter(), Counter()
        for stand, deed in all_hops():
            cords = cords_of(stand)
            sign, below = model.sign_of(cords, deed)
            self.assertEqual(hop_sign(stand, deed), sign)
            self.assertEqual(hop_below(stand, deed), model.over(cords, deed)[:2])
            signs[(deed[0], sign)] += 1
            overs[below == deed[1]] += 1
        self.assertEqual((len(signs), len(overs)), (4, 2))

    def test_as_section_15_tells_it(self):
        # a is 1, b is 3, t is 2: -[1, 3, 2] is 1.
        for at in range(16):
            stand = model.stand_of((model.SILL, lab.begun_at(model.STRAND, at)))
            self.assertEqual(hop_sign(stand, ("hop", 0, 0, 3)), 1)
            self.assertEqual(hop_below(stand, ("hop", 0, 0, 3)), (1, (1 - at) % 16))
            stand = model.stand_of((lab.told_back(lab.begun_at(model.STRAND, at)), model.LIFTED))
            self.assertEqual(hop_sign(stand, ("back", 1, 0)), 1)

    def test_in_all_directions(self):
        for turn in model.TURNS:
            stand = model.stand_of([model.led_by(cord, turn) for cord in (model.SILL, model.STRAND)])
            deed = ("hop", 0, 0, model.stroke_by(3, turn))
            self.assertEqual(hop_sign(stand, deed), lab.det_of(*turn))
            self.assertEqual(hop_below(stand, deed), (1, 1))

    def test_the_last_stroke_comes_to_point_0(self):
        stand = model.stand_of((model.SILL, lab.begun_at(model.STRAND, 2)))
        self.assertEqual(lab.walk(stand[1][0])[0], (1, 0, 1))
        self.assertEqual(hop_below(stand, ("hop", 0, 0, 3)), (1, 15))
        stand = model.stand_of((model.SILL, lab.begun_at(model.STRAND, 3)))
        self.assertEqual(hop_below(stand, ("hop", 0, 0, 3)), (1, 14))
        stand = model.stand_of((model.SILL, lab.begun_at(model.STRAND, 1)))
        self.assertEqual(hop_below(stand, ("hop", 0, 0, 3)), (1, 0))

    def test_over_itself(self):
        for place in (0, 3, 9):
            stand = model.stand_of((lab.begun_at(lab.LOOP, place), lab.moved(lab.SQUARE, (20, 0, 0))))
            for deed in hops(stand, 0):
                self.assertEqual(hop_below(stand, deed)[0], 0)
        stand = model.stand_of((lab.LOOP,))
        self.assertEqual((hop_sign(stand, ("hop", 0, 0, 2)), hop_below(stand, ("hop", 0, 0, 2))), (-1, (0, 5)))

    def test_a_back_has_the_contrary_sign_over_the_same_point(self):
        for stand, deed in all_hops():
            if deed[0] == "hop":
                led = done(stand, deed)
                back = ("back",) + deed[1:3]
                self.assertEqual(hop_sign(led, back), -hop_sign(stand, deed))
                below, own = hop_below(stand, deed), hop_below(led, back)
                self.assertEqual(own[0], below[0])
                self.assertEqual(lab.walk(led[own[0]][0])[own[1]], lab.walk(stand[below[0]][0])[below[1]])


class Changes(unittest.TestCase):
    def test_s_and_links_and_nothing_else(self):
        for stand, deed in all_hops():
            led, sign, (below, _) = done(stand, deed), hop_sign(stand, deed), hop_below(stand, deed)
            number = deed[1]
            wholes = [whole(band) for band in stand]
            table = [list(row) for row in link_table(cords_of(stand))]
            if below == number:
                wholes[number] += 2 * sign
            else:
                table[number][below] += sign
                table[below][number] += sign
            self.assertEqual([whole(band) for band in led], wholes)
            self.assertEqual(link_table(cords_of(led)), tuple(map(tuple, table)))

    def test_quarters_by_the_row_and_by_eight_over_itself(self):
        for stand, deed in all_hops():
            number = deed[1]
            p, a, b, n = row_of(stand[number][0], deed)
            change = lab.det_of(b, a, p) + lab.det_of(b, a, n)
            change = change if deed[0] == "hop" else -change
            if hop_below(stand, deed)[0] == number:
                change += 8 * hop_sign(stand, deed)
            led = done(stand, deed)
            self.assertEqual(quarters(led[number][0]) - quarters(stand[number][0]), change)


class Wrong(unittest.TestCase):
    def refused(self, stand, deed, *told):
        for function in (hop_sign, hop_below):
            try:
                function(stand, deed)
            except (LookupError, ValueError) as error:
                self.assertEqual((type(error).__name__,) + tuple(vars(error).values()), told, deed)
            else:
                self.fail(f"{deed} is told")

    def test_what_is_no_deed_by_form(self):
        stand = (lab.BAND_LOW, lab.BAND_HIGH)
        for bad in (("hop", 9, 0), ("hop", 9, 0, 4), ("back", 9, 0, 1), ("hop", 0, 0, True), (), None, "hop", 5,
                    ("hops", 0, 0, 1), (("hop", 0, 0, 1),)) + lab.NO_STANDS[::7]:
            for own in [bad] + lab.listed(bad):
                self.refused(stand, own, "Unfit")

    def test_bands_and_places_ahead_of_other_words(self):
        stand = (lab.BAND_LOW, lab.BAND_HIGH)
        for deed, error in walks.misplaced():
            self.refused(stand, deed, *error)

    def test_other_words_are_unfit_whether_they_can_be_done_or_not(self):
        for stand in model.stands()[::5]:
            for deed in (("bend", 0, 0), ("bend", 0, 1), ("out", 0, 0, 1), ("out", 0, 0, 2), ("out", 0, 0, 3), ("in", 0, 0),
                         ("slide", 0, 0, 5), ("begin", 0, 1), ("cut", 0, 3)):
                self.refused(stand, deed, "Unfit")

    def test_hops_that_can_not_be_done(self):
        told = Counter()
        for stand in model.stands()[::2]:
            for deed in model.strand_deeds(cords_of(stand), ("hop", "back")):
                try:
                    model.bent_cord(cords_of(stand), deed)
                except model.Refused as refused:
                    self.refused(stand, deed, *refused.told)
                    told[refused.told[0]] += 1
                    self.assertIs(can_do(stand, deed), False)
        self.assertEqual(set(told), {"NoPlace", "Unfit", "Taken", "CanNot"})


if __name__ == "__main__":
    unittest.main()
