"""[13]: deeds.py."""

import itertools
import random
import unittest
from collections import Counter

import lab
import model
from fourlooks.bands import whole
from fourlooks.deeds import bends, can_do, done, ins, is_deed, is_stand, outs
from fourlooks.errors import NoBand, NoPlace, Taken, Unfit
from fourlooks.quarters import quarters

FAR = 10 ** 6
NUMBERS = (0, 1, -1, 7, FAR, -FAR, 10 ** 40)
# The forms of DEEDS: how many numbers stand behind the word, and whether the last one is a side.
FORMS = {"bend": (2, False), "out": (3, True), "in": (2, False), "hop": (3, True), "back": (2, False),
         "slide": (3, False), "begin": (2, False), "cut": (2, False)}
FLAT = (lab.FLAT,)


def cords_of(stand):
    return tuple(cord for cord, _ in stand)


def other_deeds(stand):
    """Slides, begins and cuts at all places that there are and some that there are not."""
    found = []
    for number, (cord, _) in enumerate(stand):
        for place in range(-2, len(cord[1]) + 2):
            found += [("slide", number, place, many) for many in (0, 3, -5)]
            found.append(("begin", number, place))
        found += [("cut", number, many) for many in (0, 1, -7)]
    return found


class Told(unittest.TestCase):
    """What the tests of DEEDS ask for in common."""

    def refused(self, stand, deed, *told):
        """done raises the error of this name, that keeps this; can_do tells so."""
        try:
            done(stand, deed)
        except (LookupError, ValueError) as error:
            self.assertEqual((type(error).__name__,) + tuple(vars(error).values()), told, deed)
            self.assertEqual(type(error).__module__, "fourlooks.errors")
        else:
            self.fail(f"{deed} is done")
        self.assertIs(can_do(stand, deed), False)

    def beside_the_model(self, stand, deed):
        """done tells what the tests tell, errors too; the STAND behind it, None if there is none."""
        try:
            told = model.behind(stand, deed, quarters)
        except model.Refused as refused:
            self.refused(stand, deed, *refused.told)
            return None
        self.assertEqual(done(stand, deed), told, deed)
        self.assertIs(can_do(stand, deed), True)
        return told


class IsStand(unittest.TestCase):
    def test_bands_whose_cords_are_a_yard(self):
        for stand in model.stands():
            self.assertIs(is_stand(stand), True)
            self.assertIs(is_stand(stand[:1]), True)

    def test_common_points(self):
        for stand in model.stands():
            for band in stand:
                spot = lab.walk(band[0])[len(band[0][1]) // 2]
                for other in (band, (lab.moved(lab.SQUARE, spot), (0, 0, 0, 4)), (lab.moved(band[0], (0, 0, 1)), band[1])):
                    told = model.are_apart(cords_of(stand) + (other[0],))
                    self.assertIs(is_stand(stand + (other,)), told)
                    self.assertIs(is_stand((other,) + stand), told)

    def test_nothing_else_is_one(self):
        for at, bad in enumerate(lab.NO_STANDS):
            with self.subTest(at=at):
                self.assertIs(is_stand(bad), False)

    def test_lists_are_no_tuples(self):
        for stand in (FLAT, (lab.BAND_LOW, lab.BAND_HIGH)):
            for own in lab.listed(stand):
                self.assertIs(is_stand(own), False)

    def test_however_many_bands_and_whatever_numbers(self):
        many = tuple(((lab.moved(lab.COIL, (4 * k, 10 ** 30, -k)), (0,) * 7 + (4 * k + 1,))) for k in range(300))
        self.assertIs(is_stand(many), True)
        self.assertIs(is_stand(many + many[:1]), False)
        self.assertIs(is_stand(many[:-1] + ((many[-1][0], (0,) * 8),)), False)


class IsDeed(unittest.TestCase):
    def test_each_form(self):
        for word, (many, sided) in FORMS.items():
            for numbers in itertools.product(NUMBERS, repeat=many - sided):
                for end in ([(side,) for side in lab.STROKES] if sided else [()]):
                    deed = (word,) + numbers + end
                    self.assertIs(is_deed(deed), True)
                    self.assertIs(is_deed(list(deed)), False)
                    self.assertIs(is_deed(deed + (1,)), False)
                    self.assertIs(is_deed(deed[:-1]), False)

    def test_a_side_is_a_stroke(self):
        for word in ("out", "hop"):
            for bad in (0, 4, -4, FAR, True, None, "z", (1,), 1.0, [1]):
                self.assertIs(is_deed((word, 0, 0, bad)), False)

    def test_each_part_is_a_number(self):
        for word, (many, _) in FORMS.items():
            good = (word,) + (1,) * many
            self.assertIs(is_deed(good), True)
            for at in range(many):
                for bad in (True, False, None, "1", (1,), 1.0, [1], ()):
                    self.assertIs(is_deed(good[:at + 1] + (bad,) + good[at + 2:]), False)

    def test_other_words(self):
        for word in ("", "Bend", "bends", "bend ", "bump", "draw", "hops", "undo", None, 0, True, ("bend",), ["bend"],
                     b"bend", 1, ()):
            for more in ((), (0,), (0, 0), (0, 0, 1), (0, 0, 1, 1)):
                self.assertIs(is_deed((word,) + more), False)

    def test_nothing_else_is_one(self):
        for bad in lab.NO_STANDS[::2] + ("bend", "bend 0 0", ("bend",), (("bend", 0, 0),), ("bend", (0, 0)), {}, (0, 0)):
            self.assertIs(is_deed(bad), False)


class Done(Told):
    def test_beside_the_table_at_all_places_and_sides(self):
        words = Counter()
        for stand in model.stands():
            for deed in model.strand_deeds(cords_of(stand))[::2 if len(stand) > 2 else 1]:
                words[deed[0]] += self.beside_the_model(stand, deed) is not None
        self.assertEqual(set(words), {"bend", "out", "in", "hop", "back"})
        self.assertGreater(min(words.values()), 5)

    def test_slides_begins_and_cuts(self):
        for stand in model.stands()[::3]:
            for deed in other_deeds(stand):
                self.beside_the_model(stand, deed)

    def test_behind_one_another(self):
        rng = random.Random(51)
        for stand in model.stands()[::3]:
            for _ in range(25):
                cords = cords_of(stand)
                number = rng.randrange(len(cords))
                tried = [deed for deed in model.strand_deeds(cords) + other_deeds(stand) if deed[1] == number]
                led = self.beside_the_model(stand, rng.choice(tried))
                if led is not None and len(led[number][1]) <= 40:
                    stand = led

    def test_what_is_done_is_a_stand_and_the_other_bands_stay(self):
        for stand in model.stands()[::2]:
            for deed in (model.strand_deeds(cords_of(stand)) + other_deeds(stand))[::3]:
                if can_do(stand, deed):
                    led, number = done(stand, deed), deed[1]
                    self.assertTrue(is_stand(led))
                    self.assertEqual(led[:number] + led[number + 1:], stand[:number] + stand[number + 1:])

    def test_each_deed_is_undone_turns_too(self):
        words = Counter()
        for stand in model.stands():
            for deed in model.strand_deeds(cords_of(stand), ("bend", "out", "hop")):
                if can_do(stand, deed):
                    led = done(stand, deed)
                    undo = (model.UNDONE[deed[0]],) + deed[1:3]
                    self.assertTrue(can_do(led, undo))
                    self.assertEqual(done(led, undo), stand)
                    words[deed[0]] += 1
        self.assertGreater(min(words[word] for word in ("bend", "out", "hop")), 10)

    def test_s_by_each_kind_of_deed(self):
        words = Counter()
        for stand in model.stands():
            cords, wholes = cords_of(stand), [whole(band) for band in stand]
            for deed in (model.strand_deeds(cords) + other_deeds(stand))[::3 if len(stand) > 1 else 1]:
                if not can_do(stand, deed):
                    continue
                word, number = deed[:2]
                more = [0] * len(stand)
                if word in ("hop", "back"):
                    sign, below = model.sign_of(cords, deed)
                    more[number] = 2 * sign if below == number else 0
                elif word == "cut":
                    more[number] = deed[2]
                told = [whole(band) for band in done(stand, deed)]
                self.assertEqual(told, [one + two for one, two in zip(wholes, more)], deed)
                words[word] += 1
        self.assertEqual(set(words), set(FORMS))

    def test_what_changes_nothing(self):
        for stand in model.stands()[::4]:
            for number in range(len(stand)):
                for deed in (("begin", number, 0), ("slide", number, 0, 0), ("cut", number, 0)):
                    self.assertEqual(done(stand, deed), stand)


class Edges(Told):
    def test_the_last_places(self):
        for stand in model.stands()[::3]:
            for number, (cord, _) in enumerate(stand):
                many = len(cord[1])
                for word, (_, sided) in FORMS.items():
                    wanted = model.WANTED[word]
                    if not wanted:
                        continue
                    more = (1,) if sided or word == "slide" else ()
                    for place in range(max(0, many - wanted + 1), many + 1):
                        self.refused(stand, (word, number, place) + more, "NoPlace", max(place, many))
                    self.refused(stand, (word, number, FAR) + more, "NoPlace", FAR)
                    for place in (-1, -2, -many, -FAR):
                        self.refused(stand, (word, number, place) + more, "NoPlace", place)
                    if wanted <= many:
                        self.beside_the_model(stand, (word, number, many - wanted) + more)

    def test_strokes_ahead_and_behind_go_round_the_end(self):
        for cord in (lab.COIL, lab.STAIRS, lab.LOOP, lab.SKEW, model.LIFTED):
            for place in range(len(cord[1])):
                stand = model.stand_of((lab.begun_at(cord, place), lab.moved(lab.STAIRS, (0, 0, 50))), place)
                many = len(cord[1])
                for deed in model.strand_deeds(cords_of(stand)):
                    if deed[1] == 0 and deed[2] in (0, many - model.WANTED[deed[0]]):
                        self.beside_the_model(stand, deed)

    def test_no_such_band(self):
        for stand in model.stands()[::5]:
            for number in (-1, len(stand), len(stand) + 3, -FAR, FAR):
                for word, (many, _) in FORMS.items():
                    self.refused(stand, (word, number) + (1,) * (many - 1), "NoBand", number)
                    self.refused(stand, (word, number) + (-1,) * (many - 1), "NoBand", number)
                for function in (bends, outs, ins):
                    with self.assertRaises(NoBand) as caught:
                        function(stand, number)
                    self.assertEqual(vars(caught.exception), {"number": number})

    def test_a_cord_of_four_strokes_is_not_drawn_in(self):
        for turn in model.TURNS[::3]:
            stand = model.stand_of([model.led_by(cord, turn) for cord in (lab.SQUARE, lab.moved(lab.HOOP, (7, 7, 7)))])
            for place in (0, 1):
                self.refused(stand, ("in", 0, place), "CanNot")
            self.refused(stand, ("in", 0, 2), "NoPlace", 4)
            self.assertEqual(ins(stand, 0), [])
        six = model.stand_of((((0, 0, 0), (1, 1, 2, -1, -1, -2)),))
        self.refused(six, ("in", 0, 0), "Unfit")
        self.assertEqual(done(six, ("in", 0, 1))[0][0][1], (1, 2, -1, -2))

    def test_a_hop_in_all_directions(self):
        for turn in model.TURNS:
            for at in (0, 1, 2, 3, 15):
                cords = (model.SILL, lab.begun_at(model.STRAND, at))
                stand = model.stand_of([model.led_by(cord, turn) for cord in cords], at)
                deed = ("hop", 0, 0, model.stroke_by(3, turn))
                led = self.beside_the_model(stand, deed)
                self.assertEqual(led[0][0], model.led_by(model.LIFTED, turn))
                self.assertEqual(self.beside_the_model(led, ("back", 0, 0)), stand)

    def test_each_of_five_points_is_to_be_free(self):
        for turn in model.TURNS[::4]:
            deed = ("hop", 0, 0, model.stroke_by(3, turn))
            for block in model.BLOCKS:
                stand = model.stand_of([model.led_by(cord, turn) for cord in (model.SILL, model.STRAND, block)])
                self.refused(stand, deed, "Taken", model.led_by(block, turn)[0])
            for one, two in ((0, 4), (1, 2), (3, 4), (0, 2)):
                cords = [model.SILL, model.STRAND, model.BLOCKS[one], model.BLOCKS[two]]
                stand = model.stand_of([model.led_by(cord, turn) for cord in cords])
                least = min(cord[0] for cord in cords_of(stand)[2:])
                self.refused(stand, deed, "Taken", least)

    def test_over_nothing(self):
        for more in ((), (lab.moved(model.STRAND, (0, 0, 5)),), (lab.moved(model.STRAND, (0, 0, 2)),)):
            self.refused(model.stand_of((model.SILL,) + more), ("hop", 0, 0, 3), "CanNot")
            self.refused(model.stand_of((model.LIFTED,) + more), ("back", 0, 0), "CanNot")

    def test_points_that_are_not_free_ahead_of_what_is_below(self):
        deed, back = ("hop", 0, 0, 3), ("back", 0, 0)
        for more in ((), (model.STRAND,), (lab.moved(model.STRAND, (0, 0, 5)),)):
            self.refused(model.stand_of((model.LIFTED, model.PLUG) + more), back, "Taken", (1, 0, 0))
        for block in model.BLOCKS:
            self.refused(model.stand_of((model.SILL, block)), deed, "Taken", block[0])
        # A CORD that is bent at m has a POINT that is wanted free.
        self.refused(model.stand_of((model.SILL, model.BENT_ABOVE)), deed, "Taken", (1, 0, 2))
        self.refused(model.stand_of((model.LIFTED, model.BENT_BELOW)), back, "Taken", (1, 0, 0))

    def test_each_point_of_the_strand_may_be_point_0(self):
        for at in range(16):
            stand = model.stand_of((model.SILL, lab.begun_at(model.STRAND, at)))
            self.assertEqual(done(stand, ("hop", 0, 0, 3))[0][0], model.LIFTED)
            stand = model.stand_of((model.LIFTED, lab.told_back(lab.begun_at(model.STRAND, at))))
            self.assertEqual(done(stand, ("back", 0, 0))[0][0], model.SILL)

    def test_over_itself(self):
        for cord, sign in ((lab.LOOP, -1), (lab.mirrored(lab.LOOP, 2), None), (lab.mirrored(lab.LOOP, 1), None)):
            for turn in model.TURNS[::7]:
                stand = model.stand_of((model.led_by(cord, turn),))
                told = [deed for deed in model.strand_deeds(cords_of(stand), ("hop",)) if can_do(stand, deed)]
                self.assertGreater(len(told), 0)
                for deed in told:
                    led = self.beside_the_model(stand, deed)
                    self.assertEqual(abs(whole(led[0]) - whole(stand[0])), 2)
                    self.assertEqual(self.beside_the_model(led, ("back",) + deed[1:3]), stand)

    def test_strokes_and_sides_that_do_not_fit(self):
        stand = model.stand_of((model.SILL, model.STRAND))
        for deed in (("bend", 0, 0), ("bend", 1, 5), ("out", 0, 0, 1), ("out", 0, 0, -1), ("out", 1, 0, 2),
                     ("in", 0, 0), ("in", 1, 0), ("hop", 0, 0, 1), ("hop", 0, 0, -1), ("hop", 0, 1, 3),
                     ("hop", 0, 2, 3), ("back", 0, 0), ("back", 1, 3)):
            self.refused(stand, deed, "Unfit")
        lifted = model.LIFTED[1]
        for at in range(1, 5):
            self.refused(model.stand_of((lab.begun_at(model.LIFTED, at), model.STRAND)), ("back", 0, 0), "Unfit")
        self.assertEqual(lifted[:6], (3, 3, 1, 1, -3, -3))

    def test_unfit_ahead_of_taken_ahead_of_can_not(self):
        # The side along the stroke would lead to POINTS that are taken.
        self.refused(FLAT, ("out", 0, 0, -1), "Unfit")
        self.refused(FLAT, ("out", 0, 0, 2), "Taken", (0, 1, 0))
        self.refused(FLAT, ("bend", 0, 0), "Taken", (0, 1, 0))
        self.refused(FLAT, ("hop", 0, 0, 3), "Unfit")
        self.refused(FLAT, ("hop", 0, 3, 3), "NoPlace", 4)
        self.refused(FLAT, ("hop", 1, 9, 1), "NoBand", 1)


class UnfitDeeds(unittest.TestCase):
    def test_what_is_no_deed_is_unfit(self):
        bad = [("bend",), ("bend", 0), ("bend", 0, 0, 0), ("out", 0, 0), ("out", 0, 0, 4), ("out", 0, 0, 0),
               ("hop", 0, 0, True), ("slide", 0, 0), ("cut", 0), ("cut", 0, 0, 0), ("begin", 0, None), ("undo", 0, 0),
               ("bend", True, 0), ("bend", 0, "0"), (), None, 0, "bend", ("bend", (0,), 0), {}, (("bend", 0, 0),)]
        for deed in bad + list(lab.NO_STANDS[::5]):
            for function in (done, can_do):
                for own in [deed] + lab.listed(deed):
                    with self.assertRaises(Unfit) as caught:
                        function(FLAT, own)
                    self.assertEqual(vars(caught.exception), {})

    def test_a_form_that_is_none_is_unfit_ahead_of_no_band(self):
        for deed in (("bend", 9), ("out", 9, 0, 0), ("hop", 9, 0, 5), ("cut", 9, 0, 0)):
            with self.assertRaises(Unfit):
                done(FLAT, deed)

    def test_a_stand_stays_when_a_deed_is_refused(self):
        stand = lab.as_lists((lab.BAND_LOW, lab.BAND_HIGH))
        kept = repr(stand)
        for deed in (["bend", 0, 0], ["out", 2, 0, 1], ["out", 0, 8, 1], ["out", 0, 0, 1], ["in", 0, 0]):
            try:
                done(stand, deed)
            except (NoBand, NoPlace, Taken, ValueError):
                pass
            self.assertEqual(repr(stand), kept)
            self.assertEqual(len(deed), 4 if deed[0] == "out" else 3)


class Listed(unittest.TestCase):
    def test_beside_all_places_and_sides_that_are_tried(self):
        many = Counter()
        for stand in model.stands():
            cords = cords_of(stand)
            for number in range(len(stand)):
                for function, word in ((bends, "bend"), (outs, "out"), (ins, "in")):
                    told = []
                    for deed in model.strand_deeds(cords, (word,)):
                        if deed[1] == number:
                            try:
                                model.bent_cord(cords, deed)
                            except model.Refused:
                                continue
                            told.append(deed)
                    own = function(stand, number)
                    self.assertEqual(own, sorted(told))
                    self.assertIs(type(own), list)
                    many[word] += len(own)
        self.assertGreater(min(many.values()), 50)

    def test_each_list_is_new(self):
        for function in (bends, outs, ins):
            first = function((lab.WOUND,), 0)
            first.append(None)
            self.assertNotEqual(function((lab.WOUND,), 0), first)


if __name__ == "__main__":
    unittest.main()
