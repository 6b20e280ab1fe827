"""[14]: effects.py."""

import unittest
from collections import Counter

import lab
import model
import walks
from fourlooks.bands import plain_band, whole
from fourlooks.deeds import done
from fourlooks.effects import links_changed, quarters_change, whole_change
from fourlooks.links import link_table
from fourlooks.quarters import quarters

FUNCTIONS = (quarters_change, whole_change, links_changed)
FAR = 10 ** 6


def told(stand, deed):
    return tuple(function(stand, deed) for function in FUNCTIONS)


def counted(stand, led, number):
    """What all three should tell: counted ahead of a DEED and behind it."""
    cords, after = walks.cords_of(stand), walks.cords_of(led)
    one, two = link_table(cords)[number], link_table(after)[number]
    links = tuple((at, two[at] - one[at]) for at in range(len(stand)) if one[at] != two[at])
    return (quarters(after[number]) - quarters(cords[number]), whole(led[number]) - whole(stand[number]), links)


def by_the_words(stand, deed):
    """What all three should tell: by the row of the DEED and its sign, as section 13 says it."""
    word, number, place = deed[:3]
    if word == "cut":
        return (0, deed[2], ())
    if word in ("slide", "begin"):
        return (0, 0, ())
    strokes = stand[number][0][1]
    end = place + model.WANTED[word]
    row, p, n = strokes[place:end], strokes[place - 1], strokes[end % len(strokes)]
    first, second, times = {
        "bend": lambda: (row[0], row[1], -1), "out": lambda: (deed[3], row[0], 1), "in": lambda: (row[0], row[1], -1),
        "hop": lambda: (deed[3], row[0], 1), "back": lambda: (row[0], row[2], -1),
    }[word]()
    change = times * (lab.det_of(first, second, p) + lab.det_of(first, second, n))
    if word not in ("hop", "back"):
        return (change, 0, ())
    sign, below = model.sign_of(walks.cords_of(stand), deed)
    return (change + 8 * sign, 2 * sign, ()) if below == number else (change, 0, ((below, sign),))


class Counted(unittest.TestCase):
    def one(self, stand, deed):
        led = walks.behind(stand, deed)
        own = told(stand, deed)
        self.assertEqual(own, counted(stand, led, deed[1]), deed)
        self.assertEqual(own, by_the_words(stand, deed), deed)
        return own

    def test_ahead_of_each_hop_and_back_and_behind_it(self):
        seen = Counter()
        stands = list(model.stands())
        # Behind hops over their own CORDS there are backs over them.
        stands += [done(stand, deed) for stand in stands for deed in walks.doable(stand, ("hop",))[:2]]
        for stand in stands:
            for deed in walks.doable(stand, ("hop", "back")):
                _, grown, links = self.one(stand, deed)
                self.assertEqual(grown == 0, links != ())
                seen[(deed[0], grown, links and links[0][1])] += 1
        # A hop and a back, over its own CORD and over another one, with both signs.
        self.assertEqual(set(seen), {(word,) + more for word in ("hop", "back")
                                     for more in ((2, ()), (-2, ()), (0, 1), (0, -1))})

    def test_ahead_of_each_hop_and_behind_the_back_that_undoes_it(self):
        for stand in model.stands():
            for deed in walks.doable(stand, ("hop",)):
                led, back = done(stand, deed), ("back",) + deed[1:3]
                change, grown, links = told(stand, deed)
                contrary = tuple((number, -more) for number, more in links)
                self.assertEqual(told(led, back), (-change, -grown, contrary))

    def test_bends_outs_and_ins(self):
        words = Counter()
        for stand in model.stands():
            ins, others = walks.doable(stand, ("in",)), walks.doable(stand, ("bend", "out"))
            for deed in ins + others[::7 if len(stand) > 1 else 2]:
                change, grown, links = self.one(stand, deed)
                self.assertEqual((grown, links), (0, ()))
                words[(deed[0], change)] += 1
        for word in ("bend", "out", "in"):
            self.assertLessEqual({(word, change) for change in (-2, -1, 0, 1, 2)}, set(words))

    def test_slides_begins_and_cuts_change_no_quarters_and_no_links(self):
        for stand in model.stands()[::6]:
            for number, (cord, _) in enumerate(stand):
                for place in range(len(cord[1]) - 1):
                    self.one(stand, ("slide", number, place, 5 - place))
                    self.one(stand, ("begin", number, place))
                self.assertEqual(told(stand, ("begin", number, len(cord[1]) - 1)), (0, 0, ()))
                for many in (0, 1, -1, 7, FAR, -FAR):
                    self.assertEqual(self.one(stand, ("cut", number, many)), (0, many, ()))
                    self.assertEqual(told(stand, ("slide", number, 0, many)), (0, 0, ()))

    def test_along_plans(self):
        for _, plan, stands in walks.plans():
            for deed, ahead, led in zip(plan, stands, stands[1:]):
                self.assertEqual(told(ahead, deed), counted(ahead, led, deed[1]))

    def test_no_other_s_and_no_other_link_changes(self):
        for _, plan, stands in walks.plans():
            for deed, ahead, led in zip(plan, stands, stands[1:]):
                number = deed[1]
                others = [at for at in range(len(ahead)) if at != number]
                self.assertEqual([whole(led[at]) for at in others], [whole(ahead[at]) for at in others])
                one, two = link_table(walks.cords_of(ahead)), link_table(walks.cords_of(led))
                self.assertEqual([two[i][j] for i in others for j in others],
                                 [one[i][j] for i in others for j in others])

    def test_round_the_end(self):
        # The strokes ahead of the first and behind the last one are those of the other end.
        for cord in (lab.COIL, lab.STAIRS, lab.SKEW):
            for place in range(len(cord[1])):
                stand = (model.random_band(lab.begun_at(cord, place), place),)
                last = len(cord[1]) - 1
                for deed in walks.doable(stand, ("bend", "out", "in")):
                    if deed[2] == 0 or deed[2] + model.WANTED[deed[0]] > last:
                        self.one(stand, deed)


class Known(unittest.TestCase):
    def test_over_its_own_cord_both_ways(self):
        for cord, sign in ((lab.LOOP, -1), (lab.mirrored(lab.LOOP, 2), 1)):
            stand = (plain_band(cord, 3),)
            deed = ("hop", 0, 0, 2 if sign < 0 else -2)
            self.assertEqual(told(stand, deed)[1:], (2 * sign, ()))
            led = done(stand, deed)
            self.assertEqual(whole(led[0]), 3 + 2 * sign)
            self.assertEqual(told(led, ("back", 0, 0))[1:], (-2 * sign, ()))

    def test_over_another_cord_in_all_directions(self):
        for turn in model.TURNS:
            hand = lab.det_of(*turn)
            cords = [model.led_by(cord, turn) for cord in (lab.moved(lab.SQUARE, (0, 0, 30)), model.STRAND, model.SILL)]
            stand = model.stand_of(cords)
            deed = ("hop", 2, 0, model.stroke_by(3, turn))
            # a is 1, b is 3, t is 2: -[1, 3, 2] is 1.
            self.assertEqual(told(stand, deed)[1:], (0, ((1, hand),)))
            self.assertEqual(told(done(stand, deed), ("back", 2, 0))[1:], (0, ((1, -hand),)))

    def test_kinds_of_what_is_told(self):
        for _, plan, stands in walks.plans()[::4]:
            for deed, ahead in zip(plan, stands):
                change, grown, links = told(ahead, deed)
                self.assertEqual((type(change), type(grown), type(links)), (int, int, tuple))
                self.assertTrue(all(type(pair) is tuple and len(pair) == 2 for pair in links))


class Wrong(unittest.TestCase):
    def refused(self, stand, deed, *error):
        for function in FUNCTIONS:
            self.assertEqual(walks.told_error(function, stand, deed), error, (function.__name__, deed))

    def test_what_can_not_be_done_raises_what_done_raises(self):
        names = Counter()
        for stand in model.stands()[::3]:
            for deed in model.strand_deeds(walks.cords_of(stand))[::3]:
                try:
                    model.bent_cord(walks.cords_of(stand), deed)
                except model.Refused as refused:
                    self.refused(stand, deed, *refused.told)
                    names[refused.told[0]] += 1
        self.assertEqual(set(names), {"NoPlace", "Unfit", "Taken", "CanNot"})

    def test_bands_and_places(self):
        stand = (lab.BAND_LOW, lab.BAND_HIGH)
        for deed, error in walks.misplaced():
            self.refused(stand, deed, *error)

    def test_the_errors_in_their_order(self):
        stand = model.stand_of((model.SILL, model.STRAND))
        self.refused(stand, ("hop", 2, 9, 1), "NoBand", 2)
        self.refused(stand, ("hop", 0, 5, 1), "NoPlace", 6)
        self.refused(stand, ("hop", 0, 0, 1), "Unfit")
        for block in model.BLOCKS:
            own = stand[:1] + (plain_band(block, 0),)
            self.refused(own, ("hop", 0, 0, 3), "Taken", block[0])
        self.refused(stand[:1], ("hop", 0, 0, 3), "CanNot")
        self.refused((lab.FLAT,), ("in", 0, 0), "CanNot")

    def test_what_is_no_deed_by_form_is_unfit_ahead_of_no_band(self):
        stand = (lab.BAND_LOW, lab.BAND_HIGH)
        for bad in (("hop", 9, 0), ("hop", 9, 0, 4), ("back", 9, 0, 1), ("out", 0, 0, True), (), None, "hop", 5,
                    ("hops", 0, 0, 1), (("hop", 0, 0, 1),), ("cut", 0), ("slide", 0, 0)) + lab.NO_STANDS[::9]:
            for own in [bad] + lab.listed(bad):
                self.refused(stand, own, "Unfit")


if __name__ == "__main__":
    unittest.main()
