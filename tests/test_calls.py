"""[2], [3]: what holds for all functions from spaces.py on: lists for tuples, names, Unfit ahead, nothing changed."""

import copy
import unittest

import lab
import model
from fourlooks import bands, deeds, hops, links, looks, sides, skins, spaces
from fourlooks.errors import Unfit

BAND = (lab.LOOP, (3, -1, 0, 2, 5, 0, 0, -7, 1, -5))
TURNS, LOOK = (1, -2, 3, 0, 5, 6, -7, 8), (5, -6, 7)
SKIN = ((((-1, 0, 2), 1), -2), (((0, 0, 0), 3), 1), (((1, 0, 0), 1), 5))
TWO = (lab.BAND_LOW, lab.BAND_HIGH)
OVER = ("hop", 1, 0, -3)
LED = (lab.BAND_LOW, lab.BAND_HIGH_LED)

# Each function with arguments by name. What is judged there is told by JUDGED.
CALLS = (
    (spaces.is_mirror, {"turn": (2, -1, 3)}),
    (spaces.turned, {"cord": lab.LOOP, "turn": (2, 3, -1)}),
    (spaces.shifted, {"cord": lab.LOOP, "point": (3, -4, 5)}),
    (spaces.turned_band, {"band": BAND, "turn": (2, 3, -1)}),
    (spaces.put_together, {"turn": (2, 3, -1), "other": (1, 3, 2)}),
    (spaces.turn_back, {"turn": (2, 3, -1)}),
    (looks.octant_of, {"look": LOOK}),
    (looks.is_clean, {"yard": (lab.HOOP, lab.RING), "look": LOOK}),
    (looks.crossings, {"cord": lab.STAIRS, "look": (15, 16, -17)}),
    (looks.crossings_between, {"cord": lab.HOOP, "other": lab.RING, "look": LOOK}),
    (looks.seen, {"cord": lab.LOOP, "look": (15, 16, -17)}),
    (looks.seen_between, {"cord": lab.HOOP, "other": lab.RING, "look": LOOK}),
    (looks.clean_look, {"yard": (lab.HOOP, lab.RING), "octant": (1, -1, -1)}),
    (links.link, {"cord": lab.HOOP, "other": lab.RING}),
    (links.link_by, {"cord": lab.HOOP, "other": lab.RING, "look": LOOK}),
    (links.link_table, {"yard": lab.CHAIN}),
    (links.linked_lots, {"yard": lab.CHAIN[1:]}),
    (bands.whole, {"band": BAND}),
    (bands.plain_band, {"cord": lab.LOOP, "number": -4}),
    (bands.slid, {"band": BAND, "place": 3, "number": 8}),
    (bands.band_begun, {"band": BAND, "place": 9}),
    (bands.band_back, {"band": BAND}),
    (bands.same_band, {"band": BAND, "other": BAND}),
    (bands.needed, {"cord": lab.COIL, "turns": TURNS}),
    (skins.rim, {"skin": SKIN}),
    (skins.skin, {"cord": lab.STAIRS}),
    (skins.met, {"skin": SKIN, "cord": lab.COIL, "octant": (1, 1, 1)}),
    (skins.skins_added, {"skin": SKIN, "other": SKIN[:2] + ((((1, 0, 0), 1), -5), (((2, 0, 0), 2), 3))}),
    (sides.carried, {"side": 2, "stroke": 1, "other": 2}),
    (sides.side_turned, {"side": 2, "stroke": 1, "number": 3}),
    (sides.home, {"cord": lab.COIL}),
    (sides.sides, {"band": BAND, "side": 3}),
    (deeds.done, {"stand": TWO, "deed": ("out", 0, 4, -3)}),
    (deeds.done, {"stand": TWO, "deed": ("bend", 0, 1)}),
    (deeds.done, {"stand": TWO, "deed": OVER}),
    (deeds.done, {"stand": LED, "deed": ("back", 1, 0)}),
    (deeds.done, {"stand": LED, "deed": ("slide", 1, 4, -6)}),
    (deeds.done, {"stand": LED, "deed": ("begin", 1, 4)}),
    (deeds.done, {"stand": LED, "deed": ("cut", 0, 4)}),
    (deeds.can_do, {"stand": TWO, "deed": OVER}),
    (deeds.bends, {"stand": TWO, "number": 0}),
    (deeds.outs, {"stand": TWO, "number": 1}),
    (deeds.ins, {"stand": TWO, "number": 1}),
    (hops.hops, {"stand": TWO, "number": 1}),
    (hops.hop_sign, {"stand": TWO, "deed": OVER}),
    (hops.hop_below, {"stand": LED, "deed": ("back", 1, 0)}),
)
# What is judged ahead of all, by the name of the argument: the tests' own list of what is none.
JUDGED = {"cord": lab.NO_CORDS, "yard": lab.NO_YARDS, "band": lab.NO_BANDS, "stand": lab.NO_STANDS}
# Where other is judged, it is of the kind of the first argument.
OTHERS = {"link": lab.NO_CORDS, "link_by": lab.NO_CORDS, "crossings_between": lab.NO_CORDS,
          "seen_between": lab.NO_CORDS, "same_band": lab.NO_BANDS}
THINGS = (
    (spaces.is_turn, {"thing": (2, 3, -1)}), (looks.is_look, {"thing": LOOK}), (bands.is_band, {"thing": BAND}),
    (skins.is_square, {"thing": ((1, 2, 3), 1)}),
    (skins.is_skin, {"cord": lab.SKEW, "thing": ((((0, 0, 0), 2), -1), (((1, 0, 0), 1), 1))}),
    (deeds.is_stand, {"thing": TWO}), (deeds.is_deed, {"thing": OVER}),
)
BAD_THINGS = lab.NO_STANDS + lab.NO_YARDS + lab.NO_TURNS


def holds_a_list(value):
    if isinstance(value, list):
        return True
    return isinstance(value, tuple) and any(holds_a_list(part) for part in value)


class Lists(unittest.TestCase):
    def test_lists_in_the_place_of_tuples_at_each_depth(self):
        for function, more in CALLS:
            told = function(**more)
            for name, value in more.items():
                for own in lab.listed(value):
                    with self.subTest(function=function.__name__, name=name, own=own):
                        self.assertEqual(repr(function(**{**more, name: own})), repr(told))

    def test_all_arguments_in_lists_at_once(self):
        for function, more in CALLS:
            with self.subTest(function.__name__):
                own = {name: lab.as_lists(value) for name, value in more.items()}
                self.assertEqual(repr(function(**own)), repr(function(**more)))

    def test_what_is_told_is_told_in_tuples(self):
        for function, more in CALLS:
            told = function(**{name: lab.as_lists(value) for name, value in more.items()})
            parts = told if isinstance(told, list) else [told]
            self.assertFalse(any(holds_a_list(part) for part in parts), function.__name__)

    def test_a_list_is_no_tuple_for_thing(self):
        for function, more in THINGS:
            self.assertIs(function(**more), True)
            for own in lab.listed(more["thing"]):
                self.assertIs(function(**{**more, "thing": own}), False)

    def test_is_skin_takes_a_cord_in_lists(self):
        function, more = THINGS[4]
        for own in lab.listed(more["cord"]):
            self.assertIs(function(own, more["thing"]), True)


class Calls(unittest.TestCase):
    def test_arguments_by_position_or_by_name(self):
        for function, more in CALLS + THINGS:
            with self.subTest(function.__name__):
                told = function(*more.values())
                self.assertEqual(function(**more), told)
                self.assertEqual(function(**dict(reversed(list(more.items())))), told)
        self.assertEqual(len(spaces.all_turns()), 48)

    def test_the_same_call_tells_the_same(self):
        for function, more in CALLS + THINGS:
            told = repr(function(**more))
            self.assertEqual(repr(function(**more)), told)

    def test_arguments_stay_as_they_were(self):
        for function, more in CALLS + THINGS:
            own = {name: lab.as_lists(value) for name, value in more.items()}
            kept = copy.deepcopy(own)
            function(**own)
            self.assertEqual(repr(own), repr(kept), function.__name__)

    def test_each_told_list_is_new(self):
        many = 0
        for function, more in CALLS:
            told = function(**more)
            if isinstance(told, list):
                many += 1
                kept = list(told)
                told.append("own")
                del told[0]
                self.assertEqual(function(**more), kept)
        self.assertEqual(many, 7)

    def test_what_is_told_does_not_change_with_what_was_handed_in(self):
        for function, more in CALLS:
            own = {name: lab.as_lists(value) for name, value in more.items()}
            told = function(**own)
            kept = repr(told)
            for value in own.values():
                if isinstance(value, list):
                    value.clear()
            self.assertEqual(repr(told), kept)


class UnfitArguments(unittest.TestCase):
    def refused(self, function, more):
        with self.assertRaises(Unfit) as caught:
            function(**more)
        self.assertEqual(vars(caught.exception), {})

    def judged(self, function, name):
        if name == "other":
            return OTHERS.get(function.__name__, ())
        return JUDGED.get(name, ())

    def test_what_is_none_is_unfit(self):
        for function, more in CALLS + THINGS:
            for name in more:
                for bad in self.judged(function, name):
                    with self.subTest(function=function.__name__, name=name, bad=bad):
                        self.refused(function, {**more, name: bad})

    def test_told_by_lists_too(self):
        for function, more in CALLS + THINGS:
            for name in more:
                for bad in self.judged(function, name)[::5]:
                    for own in lab.listed(bad):
                        self.refused(function, {**more, name: own})

    def test_ahead_of_the_errors_of_the_other_arguments(self):
        wrong = {"place": -1, "number": 9, "deed": ("bend", 9, 0), "look": (1, 1, 1), "side": 1,
                 "thing": None, "turns": None}
        for function, more in CALLS + THINGS:
            own = {name: wrong.get(name, value) for name, value in more.items()}
            for name in more:
                for bad in self.judged(function, name)[::3]:
                    self.refused(function, {**own, name: bad})

    def test_thing_may_be_anything(self):
        for function, more in THINGS:
            for bad in BAD_THINGS:
                if bad not in (lab.FLAT, lab.WOUND) or function != bands.is_band:
                    with self.subTest(function=function.__name__, bad=bad):
                        self.assertIs(function(**{**more, "thing": bad}), False)


if __name__ == "__main__":
    unittest.main()
