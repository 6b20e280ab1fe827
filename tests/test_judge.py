"""[20]: judge.py."""

import random
import unittest
from collections import Counter
from functools import lru_cache

import lab
import model
import walks
from fourlooks.bands import plain_band, slid, whole
from fourlooks.deeds import done
from fourlooks.judge import (first_fallen, is_claim, is_paper_against, is_reason_for, is_so, paper_against, reason_for)
from fourlooks.looks import clean_look, octant_of, seen
from fourlooks.plans import behind_plan, slides
from fourlooks.pushes import corner_sum, self_link
from fourlooks.quarters import quarters
from fourlooks.rooms import rooms, round_plan, whole_plan
from fourlooks.skins import met, skin, skins_added

FAR = 10 ** 6
UP = (1, 1, 1)
FLAT = (lab.FLAT,)
# In it SQUARE has ROOMS of one hand alone.
CAGED = (lab.FLAT,) + tuple(plain_band(cord, 0) for cord in (
    ((0, 3, 1), (-3, -2, -3, 1, 1, -3, -2, 1, 3, -1, -1, -3, -1, 3, -1, -2, 1, -2, -1, 3, 3, -1, 2, 1, 1, 1, 2, -1, 2, 2)),
    ((1, -1, -3), (3, 1, -3, 1, 2, 1, -2, -2, -3, -3, -3, 2, 3, 3, -1, -3, 2, 3, 2, 2, -3, -2, -1, -2, -2, 3, -2, -1, 2, 3)),
))
# A STAND of two BANDS, each with ROOMS of both hands.
TWO = (lab.BAND_LOW, lab.BAND_HIGH)
BOX = ((((0, 0, 0), 1), -1), (((0, 0, 0), 2), -1), (((0, 0, 0), 3), -1), (((0, 0, 1), 3), 1), (((0, 1, 0), 2), 1),
       (((1, 0, 0), 1), 1))


def with_wholes(stand, more):
    """The STAND with the S of each BAND more by these numbers, and other turns."""
    found = []
    for (cord, turns), number in zip(stand, more):
        found.append((cord, (turns[0] + 4 * number - 5, turns[1] + 5) + turns[2:]))
    return tuple(found)


@lru_cache(maxsize=None)
def number_claims():
    """CLAIMS of numbers, each with whether it stands."""
    rng = random.Random(20)
    found = []
    for yard in model.yards()[3:]:
        for one, two in zip(yard, yard[1:]):
            own = lab.link_seen(rng, lab.edges(one), lab.edges(two))
            found += [(("link", one, two, own + more), more == 0) for more in (0, rng.choice((1, -1, 2, -own or 3)))]
            if own:
                found.append((("link", one, two, -own), False))
    for cord in lab.short_cords()[::11] + lab.great_cords()[::2]:
        for octant in rng.sample(lab.OCTANTS, 2):
            own = lab.clean_sight(rng, octant, lambda look: lab.seen_self(cord, look))
            found += [(("look", cord, octant, own + more), more == 0) for more in (0, rng.choice((1, -1, -own or 2)))]
        own = quarters(cord)
        found += [(("quarters", cord, own + more), more == 0) for more in (0, rng.choice((1, -1, 4, -own or -4)))]
    return tuple(found)


@lru_cache(maxsize=None)
def stand_claims():
    """CLAIMS of STANDS, each with whether it stands."""
    found = []
    stands = [FLAT, (lab.WOUND,), TWO] + list(model.stands()[::7])
    for stand in stands:
        free = all({room[2] for room in rooms(stand, number)} == {1, -1} for number in range(len(stand)))
        for more in ((0,) * 4, (2, 0, -4, 0), (0, 1, 0, 0), (-2,) * 4, (-1, 1, 0, 3), (0, 0, 0, 2), (4, -6, 0, 1)):
            more = more[:len(stand)]
            other = with_wholes(stand, more)
            found.append((("still", stand, other), not any(more)))
            if free:
                found.append((("comes", stand, other), all(number % 2 == 0 for number in more)))
    return tuple(found)


def claims():
    return number_claims() + stand_claims()


# What is none, whatever its parts are.
NO_CLAIMS = (
    None, 0, True, "", "link", (), ("link",), ("quarters", lab.SKEW), ("quarters", 0), ("quarters", lab.SKEW, 0, 0),
    ("quarters", lab.SKEW, True), ("quarters", lab.SKEW, None), ("quarters", lab.SKEW, "0"), ("Quarters", lab.SKEW, 0),
    ("quarter", lab.SKEW, 0), (("quarters",), lab.SKEW, 0), (lab.SKEW, "quarters", 0), (0, lab.SKEW, 0),
    ("quarters", (lab.SKEW,), 0), ("quarters", 0, lab.SKEW), ("look", lab.SKEW, 0), ("look", lab.SKEW, UP),
    ("look", lab.SKEW, (1, 1), 0), ("look", lab.SKEW, (1, 1, 0), 0), ("look", lab.SKEW, (1, 2, 1), 0),
    ("look", lab.SKEW, (1, 1, True), 0), ("look", lab.SKEW, (1, 1, 1, 1), 0), ("look", lab.SKEW, UP, False),
    ("look", lab.SKEW, UP, 0, 0), ("look", UP, lab.SKEW, 0), ("look", lab.SKEW, 1, 0), ("look", lab.SKEW, None, 0),
    ("link", lab.HOOP, 0), ("link", lab.HOOP, lab.RING), ("link", lab.HOOP, lab.RING, True),
    ("link", lab.HOOP, lab.RING, 0, 0), ("link", lab.HOOP, lab.HOOP, 0), ("link", lab.HOOP, lab.SQUARE, 0),
    ("link", (lab.HOOP, lab.RING), 1), ("link", lab.HOOP, lab.RING, (1,)), ("link", lab.HOOP, lab.RING, 1, lab.RING),
    ("still", FLAT), ("still", FLAT, FLAT, FLAT), ("still", FLAT, (lab.WOUND,)), ("still", TWO, TWO[:1]),
    ("still", TWO[:1], TWO), ("still", TWO, (TWO[1], TWO[0])), ("still", lab.FLAT, lab.FLAT), ("still", FLAT, 0),
    ("still", lab.SQUARE, lab.SQUARE), ("still", (), ()), ("still", FLAT, None), ("still", None, FLAT),
    ("still", TWO, done(TWO, ("begin", 1, 2))), ("still", TWO, done(TWO, ("out", 0, 4, -3))),
    ("comes", FLAT), ("comes", FLAT, FLAT, 0), ("comes", FLAT, (lab.WOUND,)), ("comes", TWO, TWO[:1]),
    ("comes", TWO, done(TWO, ("begin", 1, 2))), ("comes", CAGED, CAGED), ("came", FLAT, FLAT), ("comes", FLAT, 2),
    ("comes", CAGED[1:] + CAGED[:1], CAGED[1:] + CAGED[:1]),
)


class IsClaim(unittest.TestCase):
    def test_each_word(self):
        words = Counter()
        for claim, _ in claims():
            self.assertIs(is_claim(claim), True)
            words[claim[0]] += 1
        self.assertEqual(set(words), {"link", "look", "quarters", "still", "comes"})
        self.assertGreater(min(words.values()), 10)

    def test_lists_are_no_tuples(self):
        for claim in (("link", lab.HOOP, lab.RING, 1), ("look", lab.COIL, UP, 0), ("quarters", lab.COIL, 2),
                      ("still", TWO, TWO), ("comes", FLAT, FLAT)):
            self.assertIs(is_claim(claim), True)
            for own in lab.listed(claim):
                self.assertIs(is_claim(own), False)

    def test_nothing_else_is_one(self):
        for bad in NO_CLAIMS + lab.NO_STANDS[::7] + lab.NO_YARDS[::7]:
            self.assertIs(is_claim(bad), False)

    def test_with_what_is_no_cord_and_no_stand(self):
        for bad in lab.NO_CORDS:
            self.assertIs(is_claim(("quarters", bad, 0)), False)
            self.assertIs(is_claim(("look", bad, UP, 0)), False)
            self.assertIs(is_claim(("link", bad, lab.RING, 0)), False)
            self.assertIs(is_claim(("link", lab.RING, bad, 0)), False)
        for bad in lab.NO_STANDS[::3]:
            for word in ("still", "comes"):
                self.assertIs(is_claim((word, bad, FLAT)), False)
                self.assertIs(is_claim((word, FLAT, bad)), False)
                self.assertIs(is_claim((word, bad, bad)), False)

    def test_rooms_of_both_hands_are_asked_of_comes_alone(self):
        self.assertEqual({room[2] for room in rooms(CAGED, 0)}, {-1})
        mirrored = tuple((lab.mirrored(cord, 3), tuple(-turn for turn in turns)) for cord, turns in CAGED)
        self.assertEqual({room[2] for room in rooms(mirrored, 0)}, {1})
        for stand in (CAGED, mirrored):
            self.assertIs(is_claim(("still", stand, stand)), True)
            self.assertIs(is_claim(("comes", stand, stand)), False)
            turned = stand[1:] + stand[:1]
            self.assertIs(is_claim(("comes", turned, turned)), False)
        for stand in model.stands()[::5]:
            free = all({room[2] for room in rooms(stand, number)} == {1, -1} for number in range(len(stand)))
            self.assertIs(is_claim(("comes", stand, stand)), free)

    def test_whatever_numbers(self):
        for number in (10 ** 50, -10 ** 50, 0):
            far = (lab.moved(lab.SQUARE, (number, 0, -number)), (0, 0, 0, 4 * number))
            self.assertIs(is_claim(("quarters", far[0], number)), True)
            self.assertIs(is_claim(("link", lab.HOOP, lab.RING, number)), True)
            self.assertIs(is_claim(("look", lab.HOOP, (-1, 1, -1), number)), True)
            self.assertIs(is_claim(("still", (far,), (far,))), True)
            self.assertIs(is_claim(("comes", (far,), (far,))), True)


class IsSo(unittest.TestCase):
    def test_each_word_standing_and_fallen(self):
        told = Counter()
        for claim, stands in claims():
            self.assertIs(is_so(claim), stands, claim)
            told[claim[0], stands] += 1
        self.assertEqual(len(told), 10)
        self.assertGreater(min(told.values()), 4)

    def test_papers_and_reasons(self):
        for claim, stands in claims():
            paper = paper_against(claim)
            self.assertEqual(paper is None, stands)
            if stands:
                self.assertIs(is_reason_for(claim, reason_for(claim)), True)
                self.assertIs(is_paper_against(claim, reason_for(claim)), False)
            else:
                self.assertIs(is_paper_against(claim, paper), True)
                self.assertIs(is_reason_for(claim, paper), False)
                self.assertIsNone(reason_for(claim))

    def test_what_tells_one_number_is_paper_or_reason_by_the_claim(self):
        for claim, stands in number_claims():
            told = reason_for(claim) if stands else paper_against(claim)
            for more in (0, 1, -3):
                own = claim[:-1] + (claim[-1] + more,)
                so = is_so(own)
                self.assertIs(is_reason_for(own, told), so)
                self.assertIs(is_paper_against(own, told), not so)

    def test_the_two_words_of_stands_in_one(self):
        for (word, stand, other), stands in stand_claims():
            falls = [whole(one) - whole(two) for one, two in zip(stand, other)]
            for number in range(-1, len(stand) + 1):
                apart = 0 <= number < len(stand) and (falls[number] if word == "still" else falls[number] % 2) != 0
                self.assertIs(is_paper_against((word, stand, other), number), apart)


class Skins(unittest.TestCase):
    def test_all_skins_tell_alike(self):
        for claim, stands in number_claims():
            if claim[0] != "link":
                continue
            own = skin(claim[1])
            # Boxes anywhere: other SKINS, with SQUARES taken more than once.
            for by in ((0, 0, 0), (1, 0, 1), (-1, 2, 0)):
                box = tuple((((p[0] + by[0], p[1] + by[1], p[2] + by[2]), axis), 3 * number) for (p, axis), number in BOX)
                told = skins_added(own, box)
                self.assertEqual(met(told, claim[2], UP) == claim[3], stands)
                self.assertIs(is_reason_for(claim, told), stands)
                self.assertIs(is_paper_against(claim, told), not stands)

    def test_bent_ones_are_neither(self):
        for claim, _ in number_claims()[:60:3]:
            if claim[0] == "link":
                own = skin(claim[1])
                bent = [own[1:], own[:-1], own[::-1], own + own[:1], list(own), own + ((((0, 0, 0), 4), 1),),
                        own[:-1] + ((own[-1][0], own[-1][1] + 1),), own[:-1] + ((own[-1][0], 0),),
                        (list(own[0]),) + own[1:], skin(claim[2])]
                for told in bent:
                    self.neither(claim, told)

    def test_the_skin_is_one_of_the_first_cord(self):
        for one, two in ((lab.HOOP, lab.RING), (lab.RING, lab.HOOP)):
            for number in (1, 0):
                claim = ("link", one, two, number)
                self.assertIs(is_reason_for(claim, skin(one)), number == 1)
                self.assertIs(is_paper_against(claim, skin(one)), number == 0)
                self.neither(claim, skin(two))

    def neither(self, claim, thing):
        self.assertIs(is_reason_for(claim, thing), False)
        self.assertIs(is_paper_against(claim, thing), False)


class Looks(unittest.TestCase):
    neither = Skins.neither

    def test_all_clean_looks_of_the_octant_tell_alike(self):
        rng = random.Random(21)
        told = Counter()
        for claim, stands in number_claims():
            if claim[0] != "look":
                continue
            for _ in range(8):
                look = tuple(sign * rng.randint(1, 9) for sign in claim[2])
                if lab.is_seen_clean((claim[1],), look):
                    self.assertIs(is_reason_for(claim, look), stands)
                    self.assertIs(is_paper_against(claim, look), not stands)
                else:
                    self.neither(claim, look)
                told[lab.is_seen_clean((claim[1],), look)] += 1
        self.assertGreater(min(told[True], told[False]), 20)

    def test_another_octant_is_neither(self):
        for claim, _ in number_claims():
            if claim[0] == "look":
                for octant in lab.OCTANTS:
                    look = clean_look((claim[1],), octant)
                    if octant != claim[2]:
                        self.neither(claim, look)
                    else:
                        self.assertIs(is_reason_for(claim, look), seen(claim[1], look) == claim[3])
        # The opposite OCTANT tells the same number, but has not the octant's signs.
        self.neither(("look", lab.COIL, UP, -1), (-2, -3, -7))

    def test_what_is_told_is_clean_and_of_the_octant(self):
        for claim, stands in number_claims():
            if claim[0] == "look":
                look = reason_for(claim) if stands else paper_against(claim)
                self.assertEqual(octant_of(look), claim[2])
                self.assertTrue(lab.is_seen_clean((claim[1],), look))

    def test_what_is_no_look_is_neither(self):
        for bad in (None, 0, (), (2, 3), (2, 3, 0), (2, 3, 7, 1), [2, 3, 7], (2, 3, True), "237", ((2, 3, 7),), (0, 0, 0)):
            for number in (-1, 0):
                self.neither(("look", lab.COIL, UP, number), bad)


class Pairs(unittest.TestCase):
    neither = Skins.neither

    def test_each_octant_with_its_l(self):
        for claim, stands in number_claims():
            if claim[0] == "quarters":
                for octant in lab.OCTANTS:
                    own = self_link(claim[1], octant)
                    self.assertEqual(4 * own - corner_sum(claim[1], octant) == claim[2], stands)
                    self.assertIs(is_reason_for(claim, (octant, own)), stands)
                    self.assertIs(is_paper_against(claim, (octant, own)), not stands)
                    for more in (1, -1, 4):
                        self.neither(claim, (octant, own + more))

    def test_what_is_no_such_pair_is_neither(self):
        own = self_link(lab.SKEW, UP)
        for bad in (None, (), (UP,), (UP, own, own), [UP, own], ([1, 1, 1], own), (UP, True), (UP, None), (own, UP),
                    ((1, 1), own), ((1, 1, 2), own), ((1, 1, True), own), (UP, str(own)), own, UP, ((1, 1, 1, 1), own),
                    ((0, 1, 1), own), (None, own), "ab", ("111", own)):
            for number in (0, 1):
                self.neither(("quarters", lab.SKEW, number), bad)
        self.assertIs(is_reason_for(("quarters", lab.SKEW, 0), (UP, own)), True)


class Stands(unittest.TestCase):
    neither = Skins.neither

    def test_reasons_lead_there(self):
        for claim, stands in stand_claims():
            if stands:
                plan = reason_for(claim)
                words = {deed[0] for deed in plan}
                self.assertEqual(behind_plan(claim[1], plan), claim[2])
                self.assertNotIn("cut", words)
                if claim[0] == "still":
                    self.assertLessEqual(words, {"bend", "out", "in", "slide", "begin"})

    def test_still_without_hops_backs_and_cuts(self):
        claim = ("still", FLAT, (slid(lab.FLAT, 0, 3),))
        way = (("slide", 0, 0, 3),)
        hop, back = round_plan(FLAT, 0, (0, 3, 1)), round_plan(FLAT, 0, (0, 3, -1))
        self.assertIs(is_reason_for(claim, way), True)
        self.assertIs(is_reason_for(claim, way + (("out", 0, 0, 3), ("in", 0, 0))), True)
        for bad in (way + (("cut", 0, 0),), (("cut", 0, 1),) + way + (("cut", 0, -1),), hop + back + way, (), way * 2,
                    list(way), (list(way[0]),), way + (("begin", 0, 4),), None, 0, way + (("begin", 0, 1),)):
            self.neither(claim, bad)
        two = ("still", TWO, TWO)
        self.assertIs(is_reason_for(two, ()), True)
        self.neither(two, (("hop", 1, 0, -3), ("back", 1, 0)))

    def test_comes_with_however_many_hops_without_cuts(self):
        other = with_wholes(FLAT, (2,))
        claim = ("comes", FLAT, other)
        way = whole_plan(FLAT, other)
        hop, back = round_plan(FLAT, 0, (0, 3, 1)), round_plan(FLAT, 0, (0, 3, -1))
        self.assertIs(is_reason_for(claim, way), True)
        self.assertIs(is_reason_for(claim, (hop + back) * 6 + way), True)
        for bad in (way + (("cut", 0, 0),), (("cut", 0, 1),) + way + (("cut", 0, -1),), (), way + way, list(way),
                    (("cut", 0, 2),) + slides(done(FLAT, ("cut", 0, 2)), other), way[:-1], way + (("begin", 0, 1),), 0):
            self.neither(claim, bad)
        self.assertIs(is_reason_for(("comes", TWO, TWO), (("hop", 1, 0, -3), ("back", 1, 0))), True)

    def test_papers_are_numbers_of_bands(self):
        other = with_wholes(TWO, (0, 1))
        for word in ("still", "comes"):
            claim = (word, TWO, other)
            self.assertEqual(paper_against(claim), 1)
            self.assertIs(is_paper_against(claim, 1), True)
            for bad in (0, -1, 2, True, None, (1,), "1", (), [1], FAR):
                self.assertIs(is_paper_against(claim, bad), False)
        self.assertIs(is_paper_against(("still", TWO, with_wholes(TWO, (1, 0))), False), False)
        even = with_wholes(TWO, (2, 0))
        self.assertIs(is_paper_against(("still", TWO, even), 0), True)
        self.assertIs(is_paper_against(("comes", TWO, even), 0), False)

    def test_more_than_ten_hops(self):
        for more, error in ((20, None), (22, ("TooMany",)), (-22, ("TooMany",)), (FAR, ("TooMany",))):
            claim = ("comes", FLAT, with_wholes(FLAT, (more,)))
            self.assertIs(is_so(claim), True)
            self.assertIsNone(paper_against(claim))
            self.assertEqual(walks.told_error(reason_for, claim), error)
        # Where it does not stand there is none to be told.
        claim = ("comes", FLAT, with_wholes(FLAT, (23,)))
        self.assertIsNone(reason_for(claim))
        self.assertEqual(paper_against(claim), 0)
        eleven = ("comes", FLAT, behind_plan(FLAT, round_plan(FLAT, 0, (0, 3, 1)) * 11))
        self.assertIs(is_reason_for(eleven, round_plan(FLAT, 0, (0, 3, 1)) * 11), True)
        self.assertIs(is_so(("still", FLAT, with_wholes(FLAT, (22,)))), False)


class FirstFallen(unittest.TestCase):
    def test_the_first_that_does_not_stand(self):
        rng = random.Random(22)
        for _ in range(40):
            row = rng.sample(claims(), 4)
            fallen = [number for number, (_, stands) in enumerate(row) if not stands]
            told = first_fallen(tuple(claim for claim, _ in row))
            self.assertEqual(told, fallen[0] if fallen else None)
        standing = tuple(claim for claim, stands in claims() if stands)[::9]
        self.assertIsNone(first_fallen(standing))
        self.assertIsNone(first_fallen(()))
        bad = ("quarters", lab.COIL, 5)
        for place in range(len(standing) + 1):
            self.assertEqual(first_fallen(standing[:place] + (bad,) + standing[place:] + (bad,)), place)

    def test_unfit_ahead_if_any_is_no_claim(self):
        good, fallen = ("quarters", lab.COIL, -1), ("quarters", lab.COIL, 5)
        for bad in NO_CLAIMS:
            for row in ((bad,), (good, bad), (fallen, bad), (bad, fallen), (fallen, good, bad)):
                self.assertEqual(walks.told_error(first_fallen, row), ("Unfit",))
                self.assertEqual(walks.told_error(first_fallen, list(row)), ("Unfit",))
        for bad in (None, 0, good):
            self.assertEqual(walks.told_error(first_fallen, bad), ("Unfit",))


class Wrong(unittest.TestCase):
    def test_what_is_no_claim_is_unfit_whatever_thing_is(self):
        for bad in NO_CLAIMS + (lab.never_ending(), (lab.never_ending(),) * 3, ("still", lab.never_ending(), FLAT)):
            for own in [bad] + lab.listed(bad)[:12:3]:
                for function in (is_so, paper_against, reason_for):
                    self.assertEqual(walks.told_error(function, own), ("Unfit",))
                for function in (is_paper_against, is_reason_for):
                    for thing in (None, 0, (), UP):
                        self.assertEqual(walks.told_error(function, own, thing), ("Unfit",))

    def test_what_else_is_no_thing_of_a_claim(self):
        for claim, _ in claims()[::9]:
            for bad in (None, True, "", "link", (None,), ((),), lab.SQUARE, claim, [0], {}, lab.never_ending()):
                self.assertIs(is_reason_for(claim, bad), False)
                self.assertIs(is_paper_against(claim, bad), False)


if __name__ == "__main__":
    unittest.main()
