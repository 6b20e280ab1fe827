"""[2], [3]: what holds for all functions from spaces.py on: lists for tuples, names, Unfit ahead, nothing changed."""

import copy
import unittest

import lab
import model
from fourlooks import (bands, deeds, effects, hops, joins, judge, links, looks, plans, rooms, sides, skins, spaces, texts,
                       yards)
from fourlooks.errors import Unfit

BAND = (lab.LOOP, (3, -1, 0, 2, 5, 0, 0, -7, 1, -5))
TURNS, LOOK = (1, -2, 3, 0, 5, 6, -7, 8), (5, -6, 7)
SKIN = ((((-1, 0, 2), 1), -2), (((0, 0, 0), 3), 1), (((1, 0, 0), 1), 5))
TWO = (lab.BAND_LOW, lab.BAND_HIGH)
OVER = ("hop", 1, 0, -3)
LED = (lab.BAND_LOW, lab.BAND_HIGH_LED)
PLAN = (OVER, ("slide", 1, 4, -6), ("begin", 1, 4), ("cut", 0, 4), ("out", 0, 4, -3))
BACK = (("in", 0, 4), ("cut", 0, -4), ("begin", 1, 6), ("slide", 1, 4, 6), ("back", 1, 0))
LAP, LONG_FLAT = ((1, -1, 0), (-1, -2, 1, 2)), ((0, 0, 0), (1, 1, 1, 1, 2, -1, -1, -1, -1, -2))
LESS = (bands.plain_band(lab.BAND_LOW[0], 2), lab.BAND_HIGH)

# Each function with arguments by name. What is judged there is told by JUDGED.
CALLS = (
    (spaces.is_mirror, {"turn": (2, -1, 3)}),
    (spaces.turned, {"cord": lab.LOOP, "turn": (2, 3, -1)}),
    (spaces.shifted, {"cord": lab.LOOP, "point": (3, -4, 5)}),
    (spaces.turned_band, {"band": BAND, "turn": (2, 3, -1)}),
    (spaces.put_together, {"turn": (2, 3, -1), "other": (1, 3, 2)}),
    (spaces.turn_back, {"turn": (2, 3, -1)}),
    (looks.octant_of, {"look": LOOK}),
    (looks.is_clean, {"yard": (lab.HOOP, lab.RING), "look": LOOK}),
    (looks.crossings, {"cord": lab.STAIRS, "look": (15, 16, -17)}),
    (looks.crossings_between, {"cord": lab.HOOP, "other": lab.RING, "look": LOOK}),
    (looks.seen, {"cord": lab.LOOP, "look": (15, 16, -17)}),
    (looks.seen_between, {"cord": lab.HOOP, "other": lab.RING, "look": LOOK}),
    (looks.clean_look, {"yard": (lab.HOOP, lab.RING), "octant": (1, -1, -1)}),
    (links.link, {"cord": lab.HOOP, "other": lab.RING}),
    (links.link_by, {"cord": lab.HOOP, "other": lab.RING, "look": LOOK}),
    (links.link_table, {"yard": lab.CHAIN}),
    (links.linked_lots, {"yard": lab.CHAIN[1:]}),
    (bands.whole, {"band": BAND}),
    (bands.plain_band, {"cord": lab.LOOP, "number": -4}),
    (bands.slid, {"band": BAND, "place": 3, "number": 8}),
    (bands.band_begun, {"band": BAND, "place": 9}),
    (bands.band_back, {"band": BAND}),
    (bands.same_band, {"band": BAND, "other": BAND}),
    (bands.needed, {"cord": lab.COIL, "turns": TURNS}),
    (skins.rim, {"skin": SKIN}),
    (skins.skin, {"cord": lab.STAIRS}),
    (skins.met, {"skin": SKIN, "cord": lab.COIL, "octant": (1, 1, 1)}),
    (skins.skins_added, {"skin": SKIN, "other": SKIN[:2] + ((((1, 0, 0), 1), -5), (((2, 0, 0), 2), 3))}),
    (sides.carried, {"side": 2, "stroke": 1, "other": 2}),
    (sides.side_turned, {"side": 2, "stroke": 1, "number": 3}),
    (sides.home, {"cord": lab.COIL}),
    (sides.sides, {"band": BAND, "side": 3}),
    (deeds.done, {"stand": TWO, "deed": ("out", 0, 4, -3)}),
    (deeds.done, {"stand": TWO, "deed": ("bend", 0, 1)}),
    (deeds.done, {"stand": TWO, "deed": OVER}),
    (deeds.done, {"stand": LED, "deed": ("back", 1, 0)}),
    (deeds.done, {"stand": LED, "deed": ("slide", 1, 4, -6)}),
    (deeds.done, {"stand": LED, "deed": ("begin", 1, 4)}),
    (deeds.done, {"stand": LED, "deed": ("cut", 0, 4)}),
    (deeds.can_do, {"stand": TWO, "deed": OVER}),
    (deeds.bends, {"stand": TWO, "number": 0}),
    (deeds.outs, {"stand": TWO, "number": 1}),
    (deeds.ins, {"stand": TWO, "number": 1}),
    (hops.hops, {"stand": TWO, "number": 1}),
    (hops.hop_sign, {"stand": TWO, "deed": OVER}),
    (hops.hop_below, {"stand": LED, "deed": ("back", 1, 0)}),
    (effects.quarters_change, {"stand": TWO, "deed": ("out", 0, 4, -3)}),
    (effects.whole_change, {"stand": TWO, "deed": ("cut", 0, 4)}),
    (effects.links_changed, {"stand": TWO, "deed": OVER}),
    (plans.behind_plan, {"stand": TWO, "plan": PLAN}),
    (plans.plan_back, {"stand": TWO, "plan": PLAN}),
    (plans.ledger, {"stand": TWO, "plan": PLAN}),
    (plans.slides, {"stand": TWO, "other": (lab.BAND_LOW, (lab.BAND_HIGH[0], (1, 2, 3, -1, -2, -3)))}),
    (rooms.room_points, {"cord": lab.COIL, "place": 3, "up": 2, "hand": -1}),
    (rooms.rooms, {"stand": TWO, "number": 1}),
    (rooms.round_plan, {"stand": TWO, "number": 0, "room": (1, -1, 1)}),
    (rooms.fewest_hops, {"stand": TWO, "other": LESS}),
    (rooms.whole_plan, {"stand": TWO, "other": LESS}),
    (yards.table, {"stand": LED}),
    (yards.fewest_for, {"stand": TWO, "table": ((-2, 4), ((0, -3), (-3, 0)))}),
    (yards.led_to, {"cord": lab.COIL}),
    (yards.least_way, {"cord": lab.SKEW, "other": lab.SQUARE}),
    (joins.can_join, {"cord": lab.SKEW, "place": 0, "other": LAP, "number": 0, "side": -2}),
    (joins.joins, {"cord": lab.SKEW, "other": LAP}),
    (joins.joined, {"cord": lab.SKEW, "place": 0, "other": LAP, "number": 0, "side": -2}),
    (joins.join_change, {"cord": lab.SKEW, "place": 0, "other": LAP, "number": 0, "side": -2}),
    (joins.can_part, {"cord": LONG_FLAT, "place": 1, "number": 7}),
    (joins.parts, {"cord": LONG_FLAT}),
    (joins.parted, {"cord": LONG_FLAT, "place": 6, "number": 2}),
    (joins.parted_link, {"cord": LONG_FLAT, "place": 6, "number": 2}),
    (judge.is_so, {"claim": ("link", lab.HOOP, lab.RING, 1)}),
    (judge.is_so, {"claim": ("still", TWO, LESS)}),
    (judge.paper_against, {"claim": ("link", lab.HOOP, lab.RING, 0)}),
    (judge.paper_against, {"claim": ("still", TWO, LESS)}),
    (judge.reason_for, {"claim": ("look", lab.COIL, (1, 1, 1), -1)}),
    (judge.reason_for, {"claim": ("quarters", lab.COIL, -1)}),
    (judge.reason_for, {"claim": ("comes", TWO, LESS)}),
    (judge.first_fallen, {"claims": (("quarters", lab.COIL, -1), ("link", lab.HOOP, lab.RING, 0))}),
    (texts.strokes_name, {"strokes": (1, 2, -3)}),
    (texts.deed_name, {"deed": OVER}),
    (texts.yard_text, {"yard": (lab.HOOP, lab.RING)}),
    (texts.stand_text, {"stand": TWO}),
    (texts.plan_text, {"plan": PLAN}),
    (texts.strokes_read, {"word": "xyZ"}),
    (texts.deed_read, {"word": "hop 1 0 Z"}),
    (texts.read_yard, {"text": "cord 0.0.0 xyXY\n"}),
    (texts.read_stand, {"text": "band 0.0.0 xyXY 0,0,4,0\n"}),
    (texts.read_plan, {"text": "cut 0 1\nout 0 1 z"}),
)
# What is judged ahead of all, by the name of the argument: the tests' own list of what is none.
JUDGED = {"cord": lab.NO_CORDS, "yard": lab.NO_YARDS, "band": lab.NO_BANDS, "stand": lab.NO_STANDS}
# Where other is judged, it is of the kind of the first argument.
OTHERS = {"link": lab.NO_CORDS, "link_by": lab.NO_CORDS, "crossings_between": lab.NO_CORDS,
          "seen_between": lab.NO_CORDS, "same_band": lab.NO_BANDS, "slides": lab.NO_STANDS,
          "fewest_hops": lab.NO_STANDS, "whole_plan": lab.NO_STANDS, "is_whole_plan": lab.NO_STANDS,
          "least_way": lab.NO_CORDS, "can_join": lab.NO_CORDS, "joins": lab.NO_CORDS, "joined": lab.NO_CORDS,
          "join_change": lab.NO_CORDS}
THINGS = (
    (spaces.is_turn, {"thing": (2, 3, -1)}), (looks.is_look, {"thing": LOOK}), (bands.is_band, {"thing": BAND}),
    (skins.is_square, {"thing": ((1, 2, 3), 1)}),
    (skins.is_skin, {"cord": lab.SKEW, "thing": ((((0, 0, 0), 2), -1), (((1, 0, 0), 1), 1))}),
    (deeds.is_stand, {"thing": TWO}), (deeds.is_deed, {"thing": OVER}),
    (plans.is_plan, {"stand": TWO, "thing": PLAN}),
    (plans.is_plan_back, {"stand": TWO, "plan": PLAN, "thing": BACK}),
    (rooms.is_round_plan, {"stand": TWO, "number": 0, "thing": rooms.round_plan(TWO, 0, (1, -1, 1))}),
    (rooms.is_whole_plan, {"stand": TWO, "other": LESS, "thing": rooms.whole_plan(TWO, LESS)}),
    (judge.is_claim, {"thing": ("comes", TWO, LESS)}),
    (judge.is_paper_against, {"claim": ("quarters", lab.SKEW, 1), "thing": ((1, 1, 1), 1)}),
    (judge.is_reason_for, {"claim": ("still", TWO, TWO), "thing": (("slide", 0, 0, 1), ("slide", 0, 0, -1))}),
)
BAD_THINGS = lab.NO_STANDS + lab.NO_YARDS + lab.NO_TURNS
# What among them is what a function asks for.
HELD = {"is_band": (lab.FLAT, lab.WOUND), "is_plan": ((),), "is_reason_for": ((),)}


def holds_a_list(value):
    if isinstance(value, list):
        return True
    return isinstance(value, tuple) and any(holds_a_list(part) for part in value)


class Lists(unittest.TestCase):
    def test_lists_in_the_place_of_tuples_at_each_depth(self):
        for function, more in CALLS:
            told = function(**more)
            for name, value in more.items():
                for own in lab.listed(value):
                    with self.subTest(function=function.__name__, name=name, own=own):
                        self.assertEqual(repr(function(**{**more, name: own})), repr(told))

    def test_all_arguments_in_lists_at_once(self):
        for function, more in CALLS:
            with self.subTest(function.__name__):
                own = {name: lab.as_lists(value) for name, value in more.items()}
                self.assertEqual(repr(function(**own)), repr(function(**more)))

    def test_what_is_told_is_told_in_tuples(self):
        for function, more in CALLS:
            told = function(**{name: lab.as_lists(value) for name, value in more.items()})
            parts = told if isinstance(told, list) else [told]
            self.assertFalse(any(holds_a_list(part) for part in parts), function.__name__)

    def test_a_list_is_no_tuple_for_thing(self):
        for function, more in THINGS:
            self.assertIs(function(**more), True)
            for own in lab.listed(more["thing"]):
                self.assertIs(function(**{**more, "thing": own}), False)

    def test_lists_beside_what_is_judged(self):
        for function, more in THINGS:
            for name, value in more.items():
                if name != "thing":
                    for own in lab.listed(value):
                        self.assertIs(function(**{**more, name: own}), True)


class Calls(unittest.TestCase):
    def test_arguments_by_position_or_by_name(self):
        for function, more in CALLS + THINGS:
            with self.subTest(function.__name__):
                told = function(*more.values())
                self.assertEqual(function(**more), told)
                self.assertEqual(function(**dict(reversed(list(more.items())))), told)
        self.assertEqual(len(spaces.all_turns()), 48)

    def test_the_same_call_tells_the_same(self):
        for function, more in CALLS + THINGS:
            told = repr(function(**more))
            self.assertEqual(repr(function(**more)), told)

    def test_arguments_stay_as_they_were(self):
        for function, more in CALLS + THINGS:
            own = {name: lab.as_lists(value) for name, value in more.items()}
            kept = copy.deepcopy(own)
            function(**own)
            self.assertEqual(repr(own), repr(kept), function.__name__)

    def test_each_told_list_is_new(self):
        many = 0
        for function, more in CALLS:
            told = function(**more)
            if isinstance(told, list):
                many += 1
                kept = list(told)
                told.append("own")
                del told[0]
                self.assertEqual(function(**more), kept)
        self.assertEqual(many, 13)

    def test_what_is_told_does_not_change_with_what_was_handed_in(self):
        for function, more in CALLS:
            own = {name: lab.as_lists(value) for name, value in more.items()}
            told = function(**own)
            kept = repr(told)
            for value in own.values():
                if isinstance(value, list):
                    value.clear()
            self.assertEqual(repr(told), kept)


class UnfitArguments(unittest.TestCase):
    def refused(self, function, more):
        with self.assertRaises(Unfit) as caught:
            function(**more)
        self.assertEqual(vars(caught.exception), {})

    def judged(self, function, name):
        if name == "other":
            return OTHERS.get(function.__name__, ())
        return JUDGED.get(name, ())

    def test_what_is_none_is_unfit(self):
        for function, more in CALLS + THINGS:
            for name in more:
                for bad in self.judged(function, name):
                    with self.subTest(function=function.__name__, name=name, bad=bad):
                        self.refused(function, {**more, name: bad})

    def test_told_by_lists_too(self):
        for function, more in CALLS + THINGS:
            for name in more:
                for bad in self.judged(function, name)[::5]:
                    for own in lab.listed(bad):
                        self.refused(function, {**more, name: own})

    def test_ahead_of_the_errors_of_the_other_arguments(self):
        wrong = {"place": -1, "number": 9, "deed": ("bend", 9, 0), "look": (1, 1, 1), "side": 1,
                 "thing": None, "turns": None, "plan": (("bend", 9, 0),), "room": None, "up": 9, "table": None}
        for function, more in CALLS + THINGS:
            own = {name: wrong.get(name, value) for name, value in more.items()}
            for name in more:
                for bad in self.judged(function, name)[::3]:
                    self.refused(function, {**own, name: bad})

    def test_thing_may_be_anything(self):
        for function, more in THINGS:
            for bad in BAD_THINGS:
                if bad not in HELD.get(function.__name__, ()):
                    with self.subTest(function=function.__name__, bad=bad):
                        self.assertIs(function(**{**more, "thing": bad}), False)


if __name__ == "__main__":
    unittest.main()
