"""[23]: the names of the interface, their arguments, and the files in which they are defined."""

import ast
import importlib
import inspect
import pathlib
import unittest

PACKAGE = pathlib.Path(__file__).resolve().parent.parent / "fourlooks"

LISTED = {
    "cords": {
        "is_cord": ["thing"], "is_yard": ["thing"], "points": ["cord"], "corners": ["cord"], "boxes": ["cord"],
        "begun": ["cord", "place"], "turned_back": ["cord"], "least_form": ["cord"], "alike": ["cord", "other"],
        "all_cords": ["many"],
    },
    "spaces": {
        "is_turn": ["thing"], "all_turns": [], "is_mirror": ["turn"], "turned": ["cord", "turn"],
        "shifted": ["cord", "point"], "turned_band": ["band", "turn"], "put_together": ["turn", "other"],
        "turn_back": ["turn"],
    },
    "looks": {
        "is_look": ["thing"], "octant_of": ["look"], "is_clean": ["yard", "look"], "crossings": ["cord", "look"],
        "crossings_between": ["cord", "other", "look"], "seen": ["cord", "look"],
        "seen_between": ["cord", "other", "look"], "clean_look": ["yard", "octant"],
    },
    "links": {
        "link": ["cord", "other"], "link_by": ["cord", "other", "look"], "link_table": ["yard"],
        "linked_lots": ["yard"],
    },
    "skins": {
        "is_square": ["thing"], "rim": ["skin"], "skin": ["cord"], "is_skin": ["cord", "thing"],
        "met": ["skin", "cord", "octant"], "skins_added": ["skin", "other"],
    },
    "pushes": {
        "self_link": ["cord", "octant"], "four": ["cord"], "corner_sum": ["cord", "octant"],
        "four_by": ["cord", "octant", "number"], "octant_change": ["cord", "octant", "axis"],
    },
    "quarters": {
        "quarters": ["cord"], "quarters_by": ["cord", "octant", "number"],
        "bend_change": ["ahead", "stroke", "other", "behind"], "out_change": ["ahead", "stroke", "side", "behind"],
        "changed_rows": ["number"],
    },
    "sides": {
        "carried": ["side", "stroke", "other"], "side_turned": ["side", "stroke", "number"], "home": ["cord"],
        "sides": ["band", "side"],
    },
    "bands": {
        "is_band": ["thing"], "whole": ["band"], "plain_band": ["cord", "number"],
        "slid": ["band", "place", "number"], "band_begun": ["band", "place"], "band_back": ["band"],
        "same_band": ["band", "other"], "needed": ["cord", "turns"],
    },
    "deeds": {
        "is_stand": ["thing"], "is_deed": ["thing"], "done": ["stand", "deed"], "can_do": ["stand", "deed"],
        "bends": ["stand", "number"], "outs": ["stand", "number"], "ins": ["stand", "number"],
    },
    "effects": {
        "quarters_change": ["stand", "deed"], "whole_change": ["stand", "deed"], "links_changed": ["stand", "deed"],
    },
    "plans": {
        "behind_plan": ["stand", "plan"], "is_plan": ["stand", "thing"], "plan_back": ["stand", "plan"],
        "is_plan_back": ["stand", "plan", "thing"], "ledger": ["stand", "plan"], "slides": ["stand", "other"],
    },
    "hops": {
        "hops": ["stand", "number"], "hop_sign": ["stand", "deed"], "hop_below": ["stand", "deed"],
    },
    "rooms": {
        "room_points": ["cord", "place", "up", "hand"], "rooms": ["stand", "number"],
        "round_plan": ["stand", "number", "room"], "is_round_plan": ["stand", "number", "thing"],
        "fewest_hops": ["stand", "other"], "whole_plan": ["stand", "other"],
        "is_whole_plan": ["stand", "other", "thing"],
    },
    "yards": {
        "table": ["stand"], "fewest_for": ["stand", "table"], "led_to": ["cord"], "least_way": ["cord", "other"],
        "counted": ["many", "number"],
    },
    "joins": {
        "can_join": ["cord", "place", "other", "number", "side"], "joins": ["cord", "other"],
        "joined": ["cord", "place", "other", "number", "side"],
        "join_change": ["cord", "place", "other", "number", "side"], "can_part": ["cord", "place", "number"],
        "parts": ["cord"], "parted": ["cord", "place", "number"], "parted_link": ["cord", "place", "number"],
    },
    "judge": {
        "is_claim": ["thing"], "is_so": ["claim"], "paper_against": ["claim"], "is_paper_against": ["claim", "thing"],
        "reason_for": ["claim"], "is_reason_for": ["claim", "thing"], "first_fallen": ["claims"],
    },
    "texts": {
        "strokes_name": ["strokes"], "deed_name": ["deed"], "yard_text": ["yard"], "stand_text": ["stand"],
        "plan_text": ["plan"], "strokes_read": ["word"], "deed_read": ["word"], "read_yard": ["text"],
        "read_stand": ["text"], "read_plan": ["text"],
    },
    "board": {"Board": ["stand"]},
}


class Interface(unittest.TestCase):
    def test_functions_take_the_arguments_by_their_names(self):
        for file, functions in LISTED.items():
            module = importlib.import_module("fourlooks." + file)
            for name, names in functions.items():
                with self.subTest(file=file, name=name):
                    told = inspect.signature(getattr(module, name)).parameters.values()
                    self.assertEqual([one.name for one in told], names)
                    self.assertTrue(all(one.kind is one.POSITIONAL_OR_KEYWORD for one in told))
                    self.assertTrue(all(one.default is one.empty for one in told))

    def test_functions_are_defined_in_their_file(self):
        for file, functions in LISTED.items():
            tree = ast.parse((PACKAGE / (file + ".py")).read_text())
            defined = {node.name for node in tree.body if isinstance(node, (ast.FunctionDef, ast.ClassDef))}
            self.assertLessEqual(set(functions), defined)


if __name__ == "__main__":
    unittest.main()
