"""[18]: yards.py."""

import random
import unittest
from functools import lru_cache

import lab
import model
import walks
from fourlooks.bands import whole
from fourlooks.cords import all_cords, begun, least_form, turned_back
from fourlooks.plans import behind_plan
from fourlooks.quarters import quarters
from fourlooks.rooms import fewest_hops, round_plan
from fourlooks.yards import counted, fewest_for, led_to, least_way, table

FAR = 10 ** 6
TWO = (lab.BAND_LOW, lab.BAND_HIGH)
FLAT_SIX, PETRIE = ((0, 0, 0), (1, 1, 2, -1, -1, -2)), ((0, 0, 0), (1, 2, 3, -1, -2, -3))
TEN = ((0, 0, 0), (1, 1, 1, 1, 2, -1, -1, -1, -1, -2))


def linked(wholes, pairs):
    """A TABLE with these S and with the LINKS told by pairs of numbers of BANDS."""
    many = len(wholes)
    rows = [[0] * many for _ in range(many)]
    for (i, j), number in pairs.items():
        rows[i][j] = rows[j][i] = number
    return (tuple(wholes), tuple(map(tuple, rows)))


class Table(unittest.TestCase):
    def test_s_and_links(self):
        rng = random.Random(17)
        for stand in model.stands():
            wholes, links = table(stand)
            self.assertEqual(wholes, tuple((sum(turns) + quarters(cord)) // 4 for cord, turns in stand))
            for i in range(len(stand)):
                for j in range(len(stand)):
                    own = lab.link_seen(rng, lab.edges(stand[i][0]), lab.edges(stand[j][0])) if i != j else 0
                    self.assertEqual(links[i][j], own)

    def test_in_tuples_of_numbers(self):
        for stand in model.stands()[::5]:
            told = table(stand)
            self.assertEqual(repr(told), repr(lab.as_tuples(told)))
            self.assertEqual((len(told), len(told[0]), len(told[1])), (2, len(stand), len(stand)))

    def test_a_chain(self):
        for at in range(4):
            cords = lab.CHAIN[at:] + lab.CHAIN[:at]
            stand = model.stand_of(cords, at)
            wholes, links = table(stand)
            self.assertEqual(wholes, tuple(whole(band) for band in stand))
            for i in range(4):
                self.assertEqual([abs(number) for number in links[i]],
                                 [int(abs((i + at) % 4 - (j + at) % 4) == 1) for j in range(4)])


class FewestFor(unittest.TestCase):
    def test_links_and_half_of_s_without_signs(self):
        rng = random.Random(18)
        for stand in model.stands():
            wholes, links = table(stand)
            many = len(stand)
            for _ in range(6):
                more = [2 * rng.randint(-4, 4) for _ in range(many)]
                pairs = {(i, j): links[i][j] + rng.randint(-3, 3) for j in range(many) for i in range(j)}
                goal = linked([one + two for one, two in zip(wholes, more)], pairs)
                told = sum(abs(number - links[i][j]) for (i, j), number in pairs.items()) + sum(map(abs, more)) // 2
                self.assertEqual(fewest_for(stand, goal), told)
            self.assertEqual(fewest_for(stand, table(stand)), 0)

    def test_great_numbers(self):
        wholes, links = table(TWO)
        self.assertEqual(fewest_for(TWO, linked((wholes[0] + FAR, wholes[1] - FAR), {(0, 1): links[0][1] - FAR})), 2 * FAR)

    def test_an_s_that_differs_oddly(self):
        for stand in model.stands()[::3]:
            wholes, links = table(stand)
            for at in range(len(stand)):
                for odd in (1, -1, 5, FAR + 1):
                    own = wholes[:at] + (wholes[at] + odd,) + wholes[at + 1:]
                    self.assertEqual(walks.told_error(fewest_for, stand, (own, links)), ("CanNot",))
        wholes, links = table(TWO)
        self.assertEqual(walks.told_error(fewest_for, TWO, ((wholes[0] + 1, wholes[1] + 1), links)), ("CanNot",))

    def test_what_is_no_table_is_unfit_ahead_of_odd_s(self):
        three = model.stand_of((lab.HOOP, lab.RING, lab.moved(lab.SQUARE, (0, 0, 30))))
        wholes, links = table(three)
        good = linked(wholes, {})
        self.assertEqual(fewest_for(three, good), 1)
        rows = good[1]
        odd = (wholes[0] + 1,) + wholes[1:]
        bad = [None, 0, "", (), (wholes,), (wholes, rows, rows), (rows, wholes), (wholes, wholes), (wholes[:2], rows),
               (wholes + (0,), rows), (wholes, rows[:2]), (wholes, rows + (rows[0],)), ("000", rows), (wholes, "000"),
               (wholes, ("000", "000", "000")), (wholes, None), (None, rows), {}, object(), lab.never_ending(),
               (wholes, tuple(row[:2] for row in rows)), (wholes, tuple(row + (0,) for row in rows)),
               ((wholes[0], wholes[1], True), rows), ((wholes[0], wholes[1], None), rows), ((0, 0, (0,)), rows),
               linked(wholes[:2], {}), linked(wholes + (0,), {}), (wholes, (lab.never_ending(),) * 3)]
        for i in range(3):
            for j in range(3):
                for other in (1, -2, True, None, "0", (0,)):
                    own = [list(row) for row in rows]
                    own[i][j] = other
                    bad.append((wholes, tuple(map(tuple, own))))
                    own[j][i] = other
                    if i == j or type(other) is not int:
                        bad.append((wholes, tuple(map(tuple, own))))
        # Alike but for the sign.
        for i, j in ((0, 1), (0, 2), (1, 2)):
            own = [list(row) for row in rows]
            own[i][j], own[j][i] = 2, -2
            bad.append((wholes, tuple(map(tuple, own))))
        for value in bad:
            for own in [value] + lab.listed(value):
                self.assertEqual(walks.told_error(fewest_for, three, own), ("Unfit",))
            if isinstance(value, tuple) and len(value) == 2 and value[0] == wholes:
                self.assertEqual(walks.told_error(fewest_for, three, (odd, value[1])), ("Unfit",))

    def test_plans_without_cuts_have_no_fewer_hops_and_backs(self):
        least = 0
        for stand, plan, _ in walks.plans():
            own = tuple(deed for deed in plan if deed[0] != "cut")
            led = behind_plan(stand, own)
            crossing = sum(deed[0] in ("hop", "back") for deed in own)
            told = fewest_for(stand, table(led))
            self.assertLessEqual(told, crossing)
            self.assertEqual((told - crossing) % 2, 0)
            least += told == crossing > 0
        self.assertGreater(least, 3)

    def test_beside_fewest_hops_where_links_are_equal(self):
        for stand in model.stands()[::8]:
            other = tuple((cord, turns[:-1] + (turns[-1] + 8 * at - 16,)) for at, (cord, turns) in enumerate(stand))
            self.assertEqual(fewest_for(stand, table(other)), fewest_hops(stand, other))
        flat = (lab.FLAT,)
        way = round_plan(flat, 0, (2, 2, -1))
        self.assertEqual(fewest_for(flat, table(behind_plan(flat, way * 3))), 3)


@lru_cache(maxsize=None)
def forms():
    """The least forms of 4 and of 6 strokes, by the tests' own rows."""
    return sorted({least_form(((0, 0, 0), row)) for many in (4, 6) for row in lab.closed_rows(many)})


def led_by_hand(cord):
    """The least forms of at most 6 strokes to which one bend, out or in leads, begun at any POINT."""
    found = set()
    for place in range(len(cord[1])):
        own = lab.begun_at(cord, place)
        for at in range(len(cord[1])):
            tried = [lab.drawn(own, at), lab.bent(own, at) if at + 1 < len(cord[1]) else None]
            tried += [lab.bumped(own, at, side) for side in lab.STROKES]
            found |= {least_form(new) for new in tried if new is not None and len(new[1]) <= 6}
    return sorted(found)


@lru_cache(maxsize=None)
def led_from(form):
    return tuple(led_by_hand(form))


class LedTo(unittest.TestCase):
    def test_all_forms_of_4_6_and_8_strokes(self):
        for cord in lab.short_cords():
            told = led_to(cord)
            self.assertEqual(told, led_by_hand(cord))
            self.assertIs(type(told), list)

    def test_wherever_begun_whichever_way_gone_wherever_it_lies(self):
        for cord in lab.short_cords()[::3]:
            told = led_to(cord)
            for place in range(len(cord[1])):
                self.assertEqual(led_to(begun(cord, place)), told)
                self.assertEqual(led_to(turned_back(begun(cord, place))), told)
            self.assertEqual(led_to(lab.moved(cord, (FAR, -FAR, 3))), told)

    def test_one_leads_to_another_one_exactly_if_that_leads_to_it(self):
        self.assertEqual(len(forms()), 25)
        for one in forms():
            for two in forms():
                self.assertIs(two in led_to(one), one in led_to(two))

    def test_from_8_strokes_to_6_where_from_6_to_8(self):
        for cord in lab.short_cords():
            if len(cord[1]) == 8:
                told = led_to(cord)
                self.assertTrue(all(len(form[1]) == 6 for form in told))
                for form in forms():
                    bumps = {least_form(new) for at in range(len(form[1])) for side in lab.STROKES
                             for new in [lab.bumped(form, at, side)] if new is not None}
                    self.assertIs(form in told, least_form(cord) in bumps and len(form[1]) == 6)

    def test_how_many(self):
        many = sorted((len(form[1]), len(led_to(form))) for form in forms())
        self.assertEqual(many, [(4, 10)] * 3 + [(6, 1)] * 6 + [(6, 4)] * 12 + [(6, 6)] * 4)

    def test_more_than_8_strokes_are_too_many(self):
        for cord in (TEN, lab.STAIRS, lab.LOOP):
            self.assertEqual(walks.told_error(led_to, cord), ("TooMany",))
        self.assertEqual(walks.told_error(led_to, lab.HOOP), None)

    def test_each_list_is_new(self):
        first = led_to(FLAT_SIX)
        first.clear()
        self.assertEqual(led_to(FLAT_SIX), [((0, 0, 0), (-2, -1, 2, 1))])


def shortest(one, two):
    """The least one of all shortest ways from a form to another one: all of them are told."""
    ways = [[one]]
    while True:
        there = [way for way in ways if way[-1] == two]
        if there:
            return min(there)
        ways = [way + [form] for way in ways for form in led_from(way[-1]) if form not in way]


class LeastWay(unittest.TestCase):
    def test_beside_all_shortest_ways(self):
        lengths = set()
        for one in forms():
            for two in forms():
                told = least_way(one, two)
                self.assertEqual(told, shortest(one, two))
                self.assertIs(type(told), list)
                lengths.add(len(told))
        self.assertEqual(lengths, {1, 2, 3, 4, 5})

    def test_of_whatever_cords_with_these_forms(self):
        for one in forms()[::3]:
            for two in forms()[::4]:
                own = turned_back(begun(lab.moved(one, (FAR, 0, -FAR)), 2))
                self.assertEqual(least_way(own, begun(two, 1)), least_way(one, two))

    def test_alike(self):
        for form in forms():
            self.assertEqual(least_way(form, lab.moved(begun(form, 3), (1, 2, 3))), [form])

    def test_more_than_6_strokes_are_too_many(self):
        for cord in (lab.COIL, lab.HOOP, TEN, lab.STAIRS):
            self.assertEqual(walks.told_error(least_way, cord, lab.SQUARE), ("TooMany",))
            self.assertEqual(walks.told_error(least_way, lab.SKEW, cord), ("TooMany",))
            self.assertEqual(walks.told_error(least_way, cord, cord), ("TooMany",))

    def test_each_list_is_new(self):
        first = least_way(FLAT_SIX, PETRIE)
        kept = list(first)
        first.clear()
        self.assertEqual(least_way(FLAT_SIX, PETRIE), kept)


class Counted(unittest.TestCase):
    def test_of_207_least_forms(self):
        self.assertEqual([counted(8, number) for number in (0, 1, -1, 2, -2, FAR)], [87, 60, 60, 0, 0, 0])
        self.assertEqual([counted(6, number) for number in (0, 1, -1)], [22, 0, 0])
        self.assertEqual([counted(4, number) for number in (0, 1, -1)], [3, 0, 0])

    def test_beside_the_forms(self):
        for many in (4, 6, 8):
            told = [quarters(cord) for cord in all_cords(many)]
            for number in range(-2, 3):
                self.assertEqual(counted(many, number), told.count(number))

    def test_too_many_ahead_of_unfit(self):
        for many in (9, 10, 12, 100, FAR):
            self.assertEqual(walks.told_error(counted, many, 0), ("TooMany",))
        for many in (0, 1, 2, 3, 5, 7, -1, -4, -6, -8, -FAR):
            self.assertEqual(walks.told_error(counted, many, 0), ("Unfit",))


if __name__ == "__main__":
    unittest.main()
