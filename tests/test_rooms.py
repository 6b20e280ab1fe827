"""[17]: rooms.py."""

import unittest
from collections import Counter
from functools import lru_cache

import lab
import model
import walks
from fourlooks.bands import plain_band, slid, whole
from fourlooks.deeds import done
from fourlooks.links import link_table
from fourlooks.plans import behind_plan, plan_back
from fourlooks.rooms import (fewest_hops, is_round_plan, is_whole_plan, room_points, rooms, round_plan, whole_plan)

FAR = 10 ** 6
TWO = (lab.BAND_LOW, lab.BAND_HIGH)
# As section 16 tells them: from a stroke's begin so many along it, so many aside, so many up.
SPOTS = (
    [(0, 0, k) for k in (1, 2, 3)] + [(1, 0, k) for k in (1, 2, 3, 4)] + [(2, 0, 3), (2, 1, 3), (2, 1, 4)]
    + [(1, 1, k) for k in (2, 3, 4)] + [(1, -1, k) for k in (1, 2, 3, 4)] + [(1, -2, k) for k in (1, 2, 3, 4)]
)
# In it SQUARE has one ROOM alone: (0, -2, -1); mirrored (0, -2, 1).
CAGE = (
    ((0, 3, 1), (-3, -2, -3, 1, 1, -3, -2, 1, 3, -1, -1, -3, -1, 3, -1, -2, 1, -2, -1, 3, 3, -1, 2, 1, 1, 1, 2, -1, 2, 2)),
    ((1, -1, -3), (3, 1, -3, 1, 2, 1, -2, -2, -3, -3, -3, 2, 3, 3, -1, -3, 2, 3, 2, 2, -3, -2, -1, -2, -2, 3, -2, -1, 2, 3)),
)


def spots_of(cord, place, up, hand):
    """The 21 POINTS of a ROOM, by vectors."""
    a, u = lab.VECTORS[cord[1][place]], lab.VECTORS[up]
    y = lab.scaled(model.cross(u, a), hand)
    begin = lab.walk(cord)[place]
    return [lab.added(begin, lab.added(lab.scaled(a, i), lab.added(lab.scaled(y, j), lab.scaled(u, k))))
            for i, j, k in SPOTS]


def rooms_of(stand, number):
    """The ROOMS of a BAND, by the words of section 16."""
    cord = stand[number][0]
    taken = {spot for own, _ in stand for spot in lab.walk(own)}
    return [(place, up, hand) for place in range(len(cord[1])) for up in lab.STROKES for hand in (-1, 1)
            if abs(up) != abs(cord[1][place]) and not taken & set(spots_of(cord, place, up, hand))]


def caged(square_whole, mirrored=False):
    cords = (lab.SQUARE,) + CAGE
    if mirrored:
        cords = tuple(lab.mirrored(cord, 3) for cord in cords)
    return (plain_band(cords[0], square_whole),) + tuple(plain_band(cord, 0) for cord in cords[1:])


def with_wholes(stand, more):
    """The STAND with the S of each BAND more by these numbers, and other turns."""
    found = []
    for at, ((cord, turns), number) in enumerate(zip(stand, more)):
        own = list(turns)
        own[at % len(own)] += 4 * number + 3
        own[-1] -= 3
        found.append((cord, tuple(own)))
    return tuple(found)


class RoomPoints(unittest.TestCase):
    def test_beside_vectors(self):
        for cord in (lab.SQUARE, lab.SKEW, lab.LOOP, lab.STAIRS) + lab.great_cords()[-3:]:
            for place in range(len(cord[1])):
                for up in lab.STROKES:
                    for hand in (1, -1):
                        if abs(up) == abs(cord[1][place]):
                            self.assertEqual(walks.told_error(room_points, cord, place, up, hand), ("Unfit",))
                            continue
                        told = room_points(cord, place, up, hand)
                        self.assertEqual(told, tuple(sorted(spots_of(cord, place, up, hand))))
                        self.assertEqual((type(told), len(set(told))), (tuple, 21))

    def test_as_section_16_tells_it(self):
        # a is 1, up is 3: up x a is 2.
        self.assertEqual(sorted(room_points(lab.SQUARE, 0, 3, 1)), sorted(SPOTS))
        self.assertEqual(sorted(room_points(lab.SQUARE, 0, 3, -1)), sorted((x, -y, z) for x, y, z in SPOTS))
        far = lab.moved(lab.SQUARE, (FAR, -FAR, FAR))
        self.assertEqual(sorted(room_points(far, 0, 3, 1)), sorted((x + FAR, y - FAR, z + FAR) for x, y, z in SPOTS))

    def test_no_such_place_ahead_of_up_along_the_stroke(self):
        for cord in (lab.SQUARE, lab.STAIRS):
            for place in (-1, -2, len(cord[1]), FAR, -FAR):
                for up in lab.STROKES:
                    self.assertEqual(walks.told_error(room_points, cord, place, up, 1), ("NoPlace", place))


@lru_cache(maxsize=None)
def blocks():
    """For each of the 21 POINTS a CORD through it, but not through SQUARE, with as few others of them as can be."""
    room, own = set(SPOTS), set(lab.walk(lab.SQUARE))
    found = {}
    for spot in SPOTS:
        tried = []
        for many in (4, 6, 8):
            for row in lab.closed_rows(many):
                walked = set(lab.walk((spot, row)))
                if not walked & own:
                    tried.append((len(walked & room), (spot, row)))
            if tried and min(tried)[0] == 1:
                break
        found[spot] = min(tried)
    return found


class Rooms(unittest.TestCase):
    def test_beside_the_words(self):
        for stand in model.stands() + (caged(0), caged(0, True)):
            for number in range(len(stand)):
                told = rooms(stand, number)
                self.assertEqual(told, rooms_of(stand, number))
                self.assertIs(type(told), list)

    def test_all_free_but_one_taken_by_another_cord(self):
        alone = 0
        for spot, (many, block) in blocks().items():
            stand = (lab.FLAT, plain_band(block, 0))
            self.assertNotIn((0, 3, 1), rooms(stand, 0))
            self.assertEqual(rooms(stand, 0), rooms_of(stand, 0))
            self.assertEqual(walks.told_error(round_plan, stand, 0, (0, 3, 1)), ("Unfit",))
            alone += many == 1
        # Those with two sides or more that are no POINTS of the ROOM can be taken alone.
        self.assertGreater(alone, 8)

    def test_beside_the_room_nothing_is_asked(self):
        # CORDS close by that take none of the POINTS.
        for block in (((0, 1, 3), (2, 3, -2, -3)), ((2, 0, 1), (1, 3, -1, -3)), ((2, -1, 2), (1, 3, -1, -3)),
                      ((0, -1, 1), (-1, 3, 1, -3)), ((1, 2, 2), (2, 3, -2, -3)), ((1, 0, 5), (2, 3, -2, -3)),
                      ((1, -3, 1), (-2, 3, 2, -3)), ((2, 2, 3), (1, 3, -1, -3)), ((2, 1, 5), (1, 3, -1, -3))):
            stand = (lab.FLAT, plain_band(block, 0))
            self.assertIn((0, 3, 1), rooms(stand, 0))
            self.assertEqual(len(round_plan(stand, 0, (0, 3, 1))), 23)

    def test_all_free_but_one_taken_by_the_same_cord(self):
        seen = set()
        for cord in lab.short_cords() + lab.great_cords():
            stand = (plain_band(cord, 0),)
            taken = set(lab.walk(cord))
            told = rooms(stand, 0)
            for place in range(0, len(cord[1]), 3):
                for up in lab.STROKES:
                    for hand in (1, -1):
                        if abs(up) != abs(cord[1][place]):
                            hit = [k for k, spot in enumerate(spots_of(cord, place, up, hand)) if spot in taken]
                            self.assertEqual((place, up, hand) in told, hit == [])
                            seen |= set(hit) if len(hit) == 1 else set()
        # Of the 21 POINTS each one that a CORD can take alone beside its own stroke.
        self.assertGreater(len(seen), 8)

    def test_of_a_square(self):
        told = rooms((lab.FLAT,), 0)
        ways = {0: (-3, -2, 3), 1: (-3, 1, 3), 2: (-3, 2, 3), 3: (-3, -1, 3)}
        self.assertEqual(told, [(place, up, hand) for place in range(4) for up in ways[place] for hand in (-1, 1)])

    def test_one_hand_alone(self):
        self.assertEqual(rooms(caged(0), 0), [(0, -2, -1)])
        self.assertEqual(rooms(caged(0, True), 0), [(0, -2, 1)])

    def test_no_such_band(self):
        for stand in model.stands()[::7]:
            for number in (-1, len(stand), FAR, -FAR):
                for call in (lambda: rooms(stand, number), lambda: round_plan(stand, number, (0, 3, 1)),
                             lambda: round_plan(stand, number, None), lambda: is_round_plan(stand, number, ())):
                    self.assertEqual(walks.told_error(call), ("NoBand", number))

    def test_each_list_is_new(self):
        first = rooms((lab.FLAT,), 0)
        first.clear()
        self.assertEqual(len(rooms((lab.FLAT,), 0)), 24)


class RoundPlan(unittest.TestCase):
    def walked(self, stand, number, room):
        """Walks a round plan and checks all that is promised of it."""
        plan = round_plan(stand, number, room)
        self.assertIs(type(plan), tuple)
        words = Counter(deed[0] for deed in plan)
        self.assertEqual((len(plan), words["hop"], words["back"], words["cut"]), (23, 1, 0, 0))
        self.assertEqual({deed[1] for deed in plan}, {number})
        led = walks.walked(stand, plan)[-1]
        place, _, hand = room
        cord, turns = stand[number]
        own = turns[:place] + (turns[place] - 8 * hand,) + turns[place + 1:]
        self.assertEqual(led, stand[:number] + ((cord, own),) + stand[number + 1:])
        self.assertEqual(whole(led[number]), whole(stand[number]) - 2 * hand)
        self.assertIs(is_round_plan(stand, number, plan), True)
        return plan

    def test_in_all_rooms_of_short_cords(self):
        for cord in (lab.SQUARE, lab.SKEW, lab.COIL, lab.LOOP):
            stand = (model.random_band(cord, 5),)
            found = rooms(stand, 0)
            self.assertEqual({(up, hand) for _, up, hand in found}, {(up, hand) for up in lab.STROKES for hand in (1, -1)})
            for room in found:
                self.walked(stand, 0, room)

    def test_along_all_strokes_with_all_ups_and_hands(self):
        seen = set()
        for turn in model.TURNS:
            stand = (model.random_band(model.led_by(lab.SQUARE, turn), 6),)
            a = stand[0][0][1][0]
            for hand in (1, -1):
                room = (0, model.stroke_by(3, turn), hand)
                self.walked(stand, 0, room)
                seen.add((a,) + room[1:])
        self.assertEqual(len(seen), 48)

    def test_in_stands_of_more_bands(self):
        for stand in model.stands()[::4] + (caged(3), caged(3, True)):
            for number in range(len(stand)):
                for room in rooms(stand, number)[::17]:
                    plan = self.walked(stand, number, room)
                    self.assertEqual(link_table(walks.cords_of(behind_plan(stand, plan))),
                                     link_table(walks.cords_of(stand)))

    def test_in_the_last_stroke(self):
        for cord in (lab.SQUARE, lab.STAIRS, lab.WIDE):
            stand, last = (model.random_band(cord, 7),), len(cord[1]) - 1
            found = [room for room in rooms(stand, 0) if room[0] in (0, last)]
            self.assertEqual({room[0] for room in found}, {0, last})
            for room in found:
                self.walked(stand, 0, room)

    def test_far_out_and_with_great_turns(self):
        cord = lab.moved(lab.COIL, (FAR, -FAR, FAR))
        stand = ((cord, (FAR, -FAR, FAR, -FAR, FAR, -FAR, FAR, -FAR + 1)),)
        for room in rooms(stand, 0)[::9]:
            self.walked(stand, 0, room)

    def test_what_is_no_room(self):
        flat = (lab.FLAT,)
        good = rooms(flat, 0)
        for place in (-1, 0, 3, 4, FAR):
            for up in lab.STROKES + (0, 4, FAR):
                for hand in (1, -1, 0, 2, -2):
                    told = walks.told_error(round_plan, flat, 0, (place, up, hand))
                    self.assertEqual(told, None if (place, up, hand) in good else ("Unfit",))
        for bad in (None, 0, (), (0,), (0, 3), (0, 3, 1, 1), ("0", 3, 1), (0, None, 1), ((0, 3, 1),), "031"):
            self.assertEqual(walks.told_error(round_plan, flat, 0, bad), ("Unfit",))

    def test_rooms_of_another_band_are_none_of_this_one(self):
        stand = (lab.FLAT, plain_band(lab.moved(lab.STAIRS, (0, 0, 20)), 0))
        for room in rooms(stand, 1):
            if room not in rooms(stand, 0):
                self.assertEqual(walks.told_error(round_plan, stand, 0, room), ("Unfit",))


class IsRoundPlan(unittest.TestCase):
    def setUp(self):
        self.stand = (lab.FLAT, plain_band(lab.moved(lab.COIL, (0, 0, 30)), 2))
        self.own, self.other = round_plan(self.stand, 0, (0, 3, 1)), round_plan(self.stand, 1, (0, -2, 1))

    def judged(self, thing, told, number=0):
        self.assertIs(is_round_plan(self.stand, number, thing), told)

    def test_this_band_and_no_other_one(self):
        self.judged(self.own, True)
        self.judged(self.own, False, 1)
        self.judged(self.other, True, 1)
        self.judged(self.other, False)

    def test_just_one_hop_or_back(self):
        self.judged((), False)
        self.judged(self.own + self.own, False)
        self.judged(self.own + self.other, False)
        self.judged(self.own + self.other, False, 1)
        back = plan_back(self.stand, self.own)
        self.assertEqual(Counter(deed[0] for deed in back)["back"], 1)
        self.assertIs(is_round_plan(behind_plan(self.stand, self.own), 0, back), True)
        self.judged(self.own + back, False)
        self.judged((("slide", 0, 0, 4),), False)

    def test_a_back_alone(self):
        # Turned round by its hand a round plan is undone by backs, here from the STAND itself.
        led = behind_plan(self.stand, self.own)
        back = plan_back(self.stand, self.own)
        self.assertIs(is_round_plan(led, 0, back), True)
        self.assertIs(is_round_plan(led, 1, back), False)

    def test_without_cuts(self):
        for cut in (("cut", 0, 0), ("cut", 0, 2), ("cut", 1, 1), ("cut", 1, 0)):
            self.judged(self.own + (cut,), False)
            self.judged((cut,) + self.own, False)
            self.judged(self.own[:9] + (cut,) + self.own[9:], False)

    def test_other_deeds_may_stand_between(self):
        more = (("slide", 0, 0, 5), ("begin", 1, 0), ("slide", 1, 3, -2), ("out", 1, 0, -2), ("in", 1, 0))
        for place in (0, 5, 23):
            self.judged(self.own[:place] + more + self.own[place:], True)
        self.judged((("begin", 0, 1),) + self.own, False)
        self.judged((("begin", 1, 1),) + self.own + (("begin", 1, 7),), True)

    def test_all_cords_are_as_before(self):
        self.judged(self.own + (("begin", 0, 1),), False)
        self.judged(self.own + (("begin", 1, 1),), False)
        self.judged(self.own + (("begin", 1, 1), ("begin", 1, 7)), True)
        self.judged(self.own + (("out", 1, 0, -2),), False)
        for many in range(23):
            self.judged(self.own[:many], False)

    def test_one_hop_that_leads_to_other_cords(self):
        hop, back = ("hop", 1, 0, -3), ("back", 1, 0)
        led = done(TWO, hop)
        self.assertIs(is_round_plan(TWO, 1, (hop,)), False)
        self.assertIs(is_round_plan(led, 1, (back,)), False)
        self.assertIs(is_round_plan(TWO, 1, (hop, back)), False)

    def test_broken_ones_and_lists(self):
        self.judged(list(self.own), False)
        self.judged((list(self.own[0]),) + self.own[1:], False)
        self.judged(self.own + (("begin", 0, 4),), False)
        self.judged(self.own + (("cut", 0),), False)
        self.judged((("bend", 5, 0),) + self.own, False)
        for bad in (None, 5, "", True, "hop", {}, (None,), lab.never_ending()) + lab.NO_STANDS[::9]:
            self.judged(bad, False)


class FewestHops(unittest.TestCase):
    def test_half_of_all_differences(self):
        for stand in model.stands()[::3]:
            for more in ((0,) * 4, (2, -4, 6, 0), (-2, -2, -2, -2), (20, 0, 0, 8), (0, 0, 2, -FAR)):
                more = more[:len(stand)]
                other = with_wholes(stand, more)
                self.assertEqual(fewest_hops(stand, other), sum(map(abs, more)) // 2)
                self.assertEqual(fewest_hops(other, stand), sum(map(abs, more)) // 2)

    def test_s_that_differ_oddly(self):
        for stand in model.stands()[::3]:
            for at in range(len(stand)):
                for odd in (1, -1, 3, -7, FAR + 1):
                    more = [2] * len(stand)
                    more[at] = odd
                    other = with_wholes(stand, more)
                    for function in (fewest_hops, whole_plan):
                        self.assertEqual(walks.told_error(function, stand, other), ("CanNot",))
                    self.assertIs(is_whole_plan(stand, other, ()), False)
        # Two odd ones are odd, though they come to an even number.
        two = (lab.FLAT, plain_band(lab.moved(lab.COIL, (0, 0, 30)), 2))
        other = with_wholes(two, (1, 1))
        self.assertEqual(walks.told_error(fewest_hops, two, other), ("CanNot",))
        self.assertIs(is_whole_plan(two, other, ()), False)

    def test_other_cords_are_unfit_ahead_of_odd_s(self):
        low, high = TWO
        moved = (lab.moved(low[0], (0, 0, 9)), plain_band(low[0], 1)[1])
        begun = done(with_wholes(TWO, (1, 0)), ("begin", 0, 2))
        more = TWO + (plain_band(lab.moved(lab.SQUARE, (0, 0, 50)), 1),)
        for other in (TWO[:1], (high, low), (moved, high), begun, more, (lab.FLAT, high)):
            for one, two in ((TWO, other), (other, TWO)):
                for function in (fewest_hops, whole_plan):
                    self.assertEqual(walks.told_error(function, one, two), ("Unfit",))
                for thing in ((), None, (("cut", 0, 1),)):
                    self.assertEqual(walks.told_error(is_whole_plan, one, two, thing), ("Unfit",))


class WholePlan(unittest.TestCase):
    def walked(self, stand, other):
        plan = whole_plan(stand, other)
        self.assertIs(type(plan), tuple)
        words = Counter(deed[0] for deed in plan)
        self.assertEqual((words["hop"] + words["back"], words["cut"]), (fewest_hops(stand, other), 0))
        self.assertEqual(walks.walked(stand, plan)[-1], other)
        self.assertIs(is_whole_plan(stand, other, plan), True)
        return plan

    def test_walked_deed_by_deed(self):
        for stand in model.stands()[::9] + ((lab.FLAT,), (lab.WOUND,)):
            if all({room[2] for room in rooms(stand, number)} == {1, -1} for number in range(len(stand))):
                for more in ((0,) * 4, (2, 0, 0, -4), (-2, 4, -2, 0), (0, 0, 0, 2), (-4, -4, 0, 0)):
                    self.walked(stand, with_wholes(stand, more[:len(stand)]))

    def test_equal_stands_and_slides_alone(self):
        self.assertEqual([deed for deed in whole_plan(TWO, TWO) if deed[0] != "slide"], [])
        self.walked(TWO, TWO)
        self.walked(TWO, (slid(TWO[0], 2, 5), TWO[1]))

    def test_ten_hops_and_more(self):
        for many in (20, -20):
            self.walked((lab.FLAT,), with_wholes((lab.FLAT,), (many,)))
            self.assertEqual(walks.told_error(whole_plan, (lab.FLAT,), with_wholes((lab.FLAT,), (many + 2 * many // 20,))),
                             ("TooMany",))
        stand = (lab.FLAT, plain_band(lab.moved(lab.COIL, (0, 0, 30)), 0))
        self.walked(stand, with_wholes(stand, (-8, 12)))
        for more in ((-10, 12), (12, -10), (0, 22), (FAR, -FAR)):
            self.assertEqual(walks.told_error(whole_plan, stand, with_wholes(stand, more)), ("TooMany",))

    def test_no_room_of_the_hand(self):
        # hand 1 lets S fall, hand -1 lets it grow.
        for mirrored, ways in ((False, (2, 4)), (True, (-2, -4))):
            stand = caged(5, mirrored)
            for more in ways:
                self.walked(stand, caged(5 + more, mirrored))
                self.assertEqual(walks.told_error(whole_plan, stand, caged(5 - more, mirrored)), ("CanNot",))
                self.assertEqual(fewest_hops(stand, caged(5 - more, mirrored)), abs(more) // 2)
            self.walked(stand, caged(5, mirrored))

    def test_too_many_ahead_of_no_room_behind_odd_s(self):
        stand = caged(5)
        self.assertEqual(walks.told_error(whole_plan, stand, caged(5 - 22)), ("TooMany",))
        self.assertEqual(walks.told_error(whole_plan, stand, caged(5 - 20)), ("CanNot",))
        self.assertEqual(walks.told_error(whole_plan, stand, caged(5 - 23)), ("CanNot",))


class IsWholePlan(unittest.TestCase):
    def judged(self, stand, other, thing, told):
        self.assertIs(is_whole_plan(stand, other, thing), told)

    def test_to_this_end_and_no_other_one(self):
        stand = (lab.FLAT,)
        other = with_wholes(stand, (-2,))
        plan = whole_plan(stand, other)
        self.judged(stand, other, plan, True)
        self.judged(stand, with_wholes(stand, (-4,)), plan, False)
        self.judged(stand, with_wholes(stand, (0,)), plan, False)
        self.judged(stand, (slid(other[0], 0, 1),), plan, False)
        self.judged(stand, (slid(other[0], 0, 1),), plan + (("slide", 0, 0, 1),), True)
        self.judged(stand, other, plan + (("begin", 0, 0),), True)
        self.judged(stand, other, plan + (("begin", 0, 1),), False)
        for many in (0, 1, len(plan) - 1):
            self.judged(stand, other, plan[:many], False)

    def test_no_more_hops_than_needed(self):
        stand = (lab.FLAT,)
        way, back = round_plan(stand, 0, (0, 3, 1)), round_plan(stand, 0, (0, 3, -1))
        self.assertEqual(behind_plan(stand, way + back), stand)
        self.judged(stand, stand, way + back, False)
        self.judged(stand, behind_plan(stand, way), way + way + back, False)
        self.judged(stand, behind_plan(stand, way), way, True)
        self.judged(stand, behind_plan(stand, way + way), way + way, True)

    def test_no_cuts(self):
        stand = (lab.FLAT,)
        other = with_wholes(stand, (2,))
        plan = whole_plan(stand, other)
        self.judged(stand, other, (("cut", 0, 0),) + plan, False)
        self.judged(stand, other, (("cut", 0, 1),) + plan + (("cut", 0, -1),), False)
        self.judged(stand, stand, (("cut", 0, 1), ("cut", 0, -1)), False)
        self.judged(stand, stand, (("slide", 0, 0, 1), ("slide", 0, 0, -1)), True)

    def test_more_than_ten_hops(self):
        stand = (lab.FLAT,)
        way = round_plan(stand, 0, (1, 1, -1))
        self.judged(stand, behind_plan(stand, way * 11), way * 11, True)
        self.judged(stand, behind_plan(stand, way * 11), way * 10, False)

    def test_backs_count_as_hops(self):
        stand = (lab.FLAT,)
        way = round_plan(stand, 0, (0, 3, 1))
        led = behind_plan(stand, way)
        self.judged(led, stand, plan_back(stand, way), True)
        self.judged(led, led, plan_back(stand, way) + way, False)

    def test_nothing_else_is_one(self):
        for bad in (None, 0, [], "", True, ((),), (None,), (("slide", 0, 0),), [("slide", 0, 0, 0)],
                    (["slide", 0, 0, 0],), (("begin", 0, 4),), lab.never_ending()) + lab.NO_STANDS[::9]:
            self.judged((lab.FLAT,), (lab.FLAT,), bad, False)
        self.judged((lab.FLAT,), (lab.FLAT,), (), True)


class Guarantee(unittest.TestCase):
    def test_round_and_back_by_other_ways_s_differs_evenly(self):
        for stand in model.stands()[::6]:
            for number in range(len(stand)):
                found = rooms(stand, number)[::5]
                plan = tuple(deed for room in found for deed in round_plan(stand, number, room))
                led = behind_plan(stand, plan)
                less = 2 * sum(hand for _, _, hand in found)
                self.assertEqual(whole(stand[number]) - whole(led[number]), less)
                self.assertEqual(fewest_hops(stand, led), abs(less) // 2)
                self.assertLessEqual(fewest_hops(stand, led), len(found))
                self.assertIs(is_whole_plan(stand, led, plan), abs(less) == 2 * len(found))

    def test_half_of_all_differences_is_how_many_hops_whole_plans_have(self):
        stand = (lab.FLAT, plain_band(lab.moved(lab.COIL, (0, 0, 30)), 2))
        for more in ((2, -4), (-6, 0), (0, 8)):
            other = with_wholes(stand, more)
            plan = whole_plan(stand, other)
            self.assertEqual(sum(deed[0] in ("hop", "back") for deed in plan), sum(map(abs, more)) // 2)


if __name__ == "__main__":
    unittest.main()
