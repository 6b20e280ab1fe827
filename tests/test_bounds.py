"""[3]: at the bounds nothing is refused: CORDS of 40 strokes, YARDS and STANDS of 4, PLANS of 300 DEEDS, numbers to
10^6 either way; and what is returned may be greater, and is passed in again."""

import unittest

import lab
import model
import walks
from fourlooks import (bands, board, cords, deeds, effects, hops, joins, judge, links, looks, plans, pushes, quarters, rooms,
                       sides, skins, spaces, texts, yards)

FAR = 10 ** 6
# Four CORDS of 40 strokes, three of them in far corners of space.
CORDS = (
    lab.moved(lab.STAIRS, (FAR - 10, FAR - 9, FAR - 1)), lab.moved(lab.LONG, (-FAR, -FAR, -FAR)),
    lab.moved(lab.WIDE, (FAR - 10, -FAR, -FAR)), lab.great_cords()[25],
)


def with_great_turns(cord):
    """A BAND of a CORD of 40 strokes."""
    turns = (-FAR, FAR) * 19 + (-FAR, FAR - 4)
    return (cord, turns[:-1] + (turns[-1] + bands.needed(cord, turns),))


STAND = tuple(with_great_turns(cord) for cord in CORDS)
PLAN = (("slide", 0, 0, FAR), ("begin", 1, 7), ("cut", 2, -FAR), ("out", 3, 0, None), ("in", 3, 0)) * 60


def plan():
    """A PLAN of 300 DEEDS of STAND."""
    side = next(deed[3] for deed in deeds.outs(STAND, 3) if deed[2] == 0)
    return tuple(deed[:3] + (side,) if deed[0] == "out" else deed for deed in PLAN)


class Bounds(unittest.TestCase):
    def test_what_is_handed_in_is_at_the_bounds(self):
        self.assertEqual([len(cord[1]) for cord in CORDS], [40] * 4)
        self.assertTrue(deeds.is_stand(STAND))
        numbers = [number for (_, turns) in STAND for number in turns]
        numbers += [number for cord in CORDS for spot in lab.walk(cord) for number in spot]
        self.assertEqual((min(numbers), max(numbers)), (-FAR, FAR))
        self.assertEqual({len(turns) for _, turns in STAND}, {40})
        self.assertEqual(len(plan()), 300)

    def test_cords(self):
        for cord in CORDS:
            self.assertTrue(cords.is_cord(cord))
            self.assertEqual(cords.begun(cords.begun(cord, 39), 1), cord)
            self.assertTrue(cords.alike(cord, cords.least_form(cords.turned_back(cord))))
            self.assertEqual(len(cords.points(cord)), 40)
            self.assertLessEqual(len(cords.corners(cord)), 40)
            self.assertLess(cords.boxes(cord)[0], cords.boxes(cord)[1])
        self.assertTrue(cords.is_yard(CORDS))

    def test_spaces_and_sides(self):
        for band in STAND:
            for turn in ((3, -1, 2), (-1, -2, -3)):
                led = spaces.turned_band(band, turn)
                self.assertEqual(spaces.turned_band(led, spaces.turn_back(turn)), band)
                self.assertEqual(bands.whole(led), bands.whole(band) * (1 if spaces.is_mirror(turn) is False else -1))
            own = spaces.shifted(band[0], (FAR, -FAR, FAR))
            self.assertEqual(spaces.shifted(own, (-FAR, FAR, -FAR)), band[0])
            side = next(stroke for stroke in lab.STROKES if abs(stroke) != abs(band[0][1][0]))
            self.assertEqual(len(sides.sides(band, side)), 40)
            self.assertIn(sides.home(band[0]), (0, 1, 2, 3))
        self.assertEqual(sides.side_turned(2, 1, -FAR), 2)

    def test_looks_links_skins_and_pushes(self):
        for octant in lab.OCTANTS:
            look = looks.clean_look(CORDS, octant)
            self.assertTrue(looks.is_clean(CORDS, look))
            for cord in CORDS:
                self.assertEqual(looks.seen(cord, looks.clean_look((cord,), octant)), pushes.self_link(cord, octant))
        great = (10 ** 9 - 1, -(10 ** 9), 10 ** 9 - 3)
        self.assertTrue(looks.is_clean(CORDS, great))
        self.assertEqual(looks.seen_between(CORDS[0], CORDS[1], great), 0)
        self.assertEqual(links.link_table(CORDS), ((0,) * 4,) * 4)
        self.assertEqual(links.linked_lots(CORDS), [(0,), (1,), (2,), (3,)])
        for cord in CORDS:
            own = skins.skin(cord)
            self.assertTrue(skins.is_skin(cord, own))
            self.assertEqual(skins.met(own, cord, (1, 1, 1)), pushes.self_link(cord, (1, 1, 1)))
            heavy = skins.skins_added(tuple((square, FAR) for square, _ in own), own)
            self.assertEqual(skins.is_skin(cord, heavy), False)

    def test_2000_pairs_of_a_skin(self):
        flat = tuple((((x, y, 0), 3), FAR) for x in range(50) for y in range(40))
        self.assertEqual(len(skins.rim(flat)), 2 * 90)
        self.assertEqual(skins.skins_added(flat, tuple((square, -number) for square, number in flat)), ())
        self.assertEqual(skins.met(flat, lab.moved(lab.SKEW, (3, 3, -1)), (1, 1, 1)) % FAR, 0)

    def test_quarters_and_bands(self):
        for cord, turns in STAND:
            own = quarters.quarters(cord)
            self.assertEqual(quarters.quarters_by(cord, (1, 1, 1), pushes.self_link(cord, (1, 1, 1))), own)
            self.assertEqual(pushes.four_by(cord, (1, 1, 1), FAR)[0], FAR)
            self.assertEqual(bands.whole((cord, turns)) * 4, sum(turns) + own)
            for number in (FAR, -FAR):
                band = bands.plain_band(cord, number)
                self.assertEqual(bands.whole(bands.band_back(bands.band_begun(bands.slid(band, 38, number), 39))), number)

    def test_plans_of_300_deeds(self):
        led = plans.behind_plan(STAND, plan())
        self.assertTrue(plans.is_plan(STAND, plan()))
        self.assertEqual([one - two for one, two in zip(map(bands.whole, led), map(bands.whole, STAND))], [0, 0, -60 * FAR, 0])
        rows = plans.ledger(STAND, plan())
        self.assertEqual(walks.sums(rows), (0, -60 * FAR))
        # What is returned may be greater, and may be passed in again.
        self.assertEqual(plans.behind_plan(led, plans.plan_back(STAND, plan())), STAND)
        again = plans.plan_back(led, plans.plan_back(STAND, plan()))
        self.assertTrue(plans.is_plan_back(led, plans.plan_back(STAND, plan()), again))

    def test_deeds_effects_hops(self):
        for number in range(4):
            for deed in deeds.bends(STAND, number) + deeds.outs(STAND, number)[::7] + deeds.ins(STAND, number):
                led = deeds.done(STAND, deed)
                self.assertEqual(effects.whole_change(STAND, deed), 0)
                self.assertEqual(bands.whole(led[number]), bands.whole(STAND[number]))
            for deed in hops.hops(STAND, number):
                self.assertIn(hops.hop_sign(STAND, deed), (1, -1))
                self.assertEqual(hops.hop_below(STAND, deed)[0], number)

    def test_rooms(self):
        for number in range(4):
            found = rooms.rooms(STAND, number)
            for room in found[::40]:
                own = rooms.round_plan(STAND, number, room)
                self.assertTrue(rooms.is_round_plan(STAND, number, own))
        other = tuple((cord, turns[:-1] + (turns[-1] + 8 * (at - 2),)) for at, (cord, turns) in enumerate(STAND))
        self.assertTrue(rooms.is_whole_plan(STAND, other, rooms.whole_plan(STAND, other)))
        self.assertEqual(rooms.fewest_hops(STAND, tuple(bands.plain_band(cord, bands.whole((cord, turns)) + 2 * FAR)
                                                        for cord, turns in STAND)), 4 * FAR)

    def test_yards(self):
        wholes, own = yards.table(STAND)
        more = tuple(number + FAR for number in wholes)
        rows = tuple(tuple(0 if i == j else FAR for j in range(4)) for i in range(4))
        self.assertEqual(yards.fewest_for(STAND, (more, rows)), 2 * FAR + 6 * FAR)
        self.assertEqual(own, ((0,) * 4,) * 4)

    def test_joins(self):
        for cord in CORDS:
            for place, number in joins.parts(cord)[::9]:
                one, two = joins.parted(cord, place, number)
                self.assertEqual(joins.joined(one, 0, two, len(two[1]) - 1, cord[1][place]), cords.begun(cord, place))
        one, two = lab.moved(lab.LONG, (0, 0, 0)), lab.begun_at(lab.told_back(lab.moved(lab.LONG, (0, 0, 1))), 3)
        told = joins.joins(one, two)
        self.assertEqual(len(told), 40)
        for place, number, side in told[::5]:
            led = joins.joined(one, place, two, number, side)
            self.assertEqual(len(led[1]), 80)
            self.assertEqual(quarters.quarters(led), joins.join_change(one, place, two, number, side))
            self.assertIn((place, place + 40), joins.parts(led))

    def test_judge(self):
        self.assertTrue(judge.is_claim(("comes", STAND, STAND)))
        for claim, stands in ((("quarters", CORDS[0], FAR), False), (("look", CORDS[3], (1, -1, 1), -FAR), False),
                              (("link", CORDS[0], CORDS[1], 0), True), (("still", STAND, STAND), True),
                              (("comes", STAND, deeds.done(STAND, ("cut", 1, FAR))), True)):
            self.assertIs(judge.is_so(claim), stands)
            paper = judge.paper_against(claim)
            self.assertIs(paper is None, stands)
            self.assertIs(judge.is_paper_against(claim, paper), not stands)
        self.assertEqual(judge.first_fallen((("link", CORDS[0], CORDS[1], 0), ("link", CORDS[0], CORDS[2], FAR))), 1)

    def test_texts(self):
        self.assertEqual(texts.read_yard(texts.yard_text(CORDS)), CORDS)
        self.assertEqual(texts.read_stand(texts.stand_text(STAND)), STAND)
        self.assertEqual(texts.read_plan(texts.plan_text(plan())), plan())

    def test_a_board(self):
        desk = board.Board(STAND)
        for deed in plan():
            desk.do(deed)
        self.assertEqual(desk.plan(), plan())
        self.assertEqual(desk.cuts_done(), (0, 0, -60 * FAR, 0))
        self.assertEqual(desk.twin(), desk)
        led = board.Board(desk.stand())
        led.follow(plans.plan_back(STAND, plan()))
        self.assertEqual(led.stand(), STAND)


class Again(unittest.TestCase):
    def test_no_call_leaves_a_trace_on_the_next_one(self):
        # One row of calls, told once and once more in another order.
        calls = [lambda stand=stand: (yards.table(stand), rooms.rooms(stand, 0), deeds.outs(stand, 0), texts.stand_text(stand),
                                      looks.clean_look(walks.cords_of(stand), (1, 1, 1)), skins.skin(stand[0][0]),
                                      joins.parts(stand[0][0]), judge.reason_for(("still", stand, stand)))
                 for stand in model.stands()[::6]]
        first = [call() for call in calls]
        self.assertEqual([call() for call in reversed(calls)], first[::-1])


if __name__ == "__main__":
    unittest.main()
