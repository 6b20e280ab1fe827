"""[7]: links.py."""

import itertools
import random
import unittest

import lab
import model
from fourlooks.cords import turned_back
from fourlooks.errors import NotClean, Unfit
from fourlooks.links import link, link_by, link_table, linked_lots
from fourlooks.looks import clean_look, is_clean

FAR = 10 ** 6


def table_seen(rng, yard):
    """The LINKS of a YARD, counted by clean looks."""
    many = range(len(yard))
    return tuple(tuple(lab.link_seen(rng, lab.edges(yard[i]), lab.edges(yard[j])) if i != j else 0 for j in many)
                 for i in many)


def lots_of(table):
    """The numbers of what hangs together by a table of LINKS, grown from each number."""
    found = set()
    for number in range(len(table)):
        lot = {number}
        while True:
            more = {j for i in lot for j in range(len(table)) if table[i][j] != 0} | lot
            if more == lot:
                break
            lot = more
        found.add(tuple(sorted(lot)))
    return sorted(found)


class Link(unittest.TestCase):
    def test_half_of_the_signs_that_a_clean_look_sees(self):
        rng, seen = random.Random(31), set()
        for yard in model.yards():
            for one, two in itertools.permutations(yard, 2):
                told = link(one, two)
                self.assertEqual(told, lab.link_seen(rng, lab.edges(one), lab.edges(two)))
                seen.add(told)
        self.assertLessEqual({-1, 0, 1}, seen)

    def test_known_ones(self):
        self.assertEqual(abs(link(lab.WIDE, lab.TWICE)), 2)
        self.assertEqual([abs(link(one, two)) for one, two in itertools.combinations(lab.CHAIN, 2)],
                         [1, 0, 0, 1, 0, 1])
        self.assertEqual((link(lab.HOOP, lab.RING), link(lab.HOOP, lab.THROUGH)), (1, 0))

    def test_whichever_is_told_first_wherever_begun(self):
        for yard in model.yards():
            for one, two in itertools.combinations(yard, 2):
                told = link(one, two)
                self.assertEqual(link(two, one), told)
                for place in (1, len(one[1]) // 2, len(one[1]) - 1):
                    self.assertEqual(link(lab.begun_at(one, place), two), told)

    def test_one_told_the_other_way_round_is_the_contrary(self):
        for yard in model.yards():
            for one, two in itertools.permutations(yard, 2):
                told = link(one, two)
                self.assertEqual(link(turned_back(one), two), -told)
                self.assertEqual(link(one, turned_back(two)), -told)
                self.assertEqual(link(turned_back(one), turned_back(two)), told)

    def test_moved_turned_and_mirrored_together(self):
        for yard in model.yards():
            for one, two in itertools.combinations(yard, 2):
                told = link(one, two)
                for by in ((FAR, -FAR, FAR), (-FAR, 3, 0)):
                    self.assertEqual(link(lab.moved(one, by), lab.moved(two, by)), told)
                self.assertEqual(link(lab.turned_round(one), lab.turned_round(two)), told)
                for axis in (1, 2, 3):
                    self.assertEqual(link(lab.mirrored(one, axis), lab.mirrored(two, axis)), -told)

    def test_behind_bends_and_bumps_that_keep_the_cords_apart(self):
        rng, many = random.Random(32), 0
        for yard in model.yards():
            if len(yard) > 1 and link(*yard[:2]) != 0:
                led = yard
                for _ in range(6):
                    led = model.shaken(rng, led, 60, ("bend", "bend", "out", "in"))
                    many += led != yard
                    self.assertEqual(link_table(led), link_table(yard))
        self.assertGreater(many, 40)

    def test_boxes_without_a_common_point(self):
        for cord in lab.great_cords()[:20]:
            wide = max(max(column) - min(column) for column in zip(*lab.walk(cord)))
            for other in (lab.COIL, lab.STAIRS, cord):
                for at in range(3):
                    by = [0, 0, 0]
                    by[at] = 2 * wide + 60
                    self.assertEqual(link(cord, lab.moved(other, by)), 0)

    def test_a_common_point_is_unfit(self):
        for one, two in ((lab.HOOP, lab.HOOP), (lab.HOOP, lab.SQUARE), (lab.STAIRS, lab.LONG),
                         (lab.COIL, lab.moved(lab.SQUARE, (2, 1, 1))), (lab.COIL, lab.moved(lab.SQUARE, (0, -1, 1)))):
            for function, more in ((link, ()), (link_by, ((5, 6, 7),)), (link_by, ((1, 1, 1),))):
                with self.assertRaises(Unfit) as caught:
                    function(one, two, *more)
                self.assertEqual(vars(caught.exception), {})


class LinkBy(unittest.TestCase):
    def test_any_clean_look_tells_the_same(self):
        rng = random.Random(33)
        for yard in model.yards():
            for one, two in itertools.permutations(yard[:3], 2):
                told = link(one, two)
                looks = [clean_look((one, two), octant) for octant in lab.OCTANTS]
                looks += [tuple(rng.choice((1, -1)) * rng.randint(1, 300) for _ in range(3)) for _ in range(6)]
                for look in looks:
                    if is_clean((one, two), look):
                        self.assertEqual(link_by(one, two, look), told)
                    else:
                        with self.assertRaises(NotClean) as caught:
                            link_by(one, two, look)
                        self.assertEqual(vars(caught.exception), {})

    def test_below_0(self):
        told = link_by(lab.BEAD, lab.LONG_RING, (5, 6, 7))
        self.assertEqual((told, link_by(turned_back(lab.BEAD), lab.LONG_RING, (5, 6, 7))), (-1, 1))


class LinkTable(unittest.TestCase):
    def test_the_links_of_all_in_order(self):
        rng = random.Random(34)
        for yard in model.yards():
            told = link_table(yard)
            self.assertEqual(told, table_seen(rng, yard))
            self.assertEqual(repr(link_table(list(yard))), repr(told))

    def test_one_cord_alone_and_orders(self):
        self.assertEqual(link_table((lab.COIL,)), ((0,),))
        for order in itertools.permutations(range(4)):
            yard = [lab.CHAIN[at] for at in order]
            self.assertEqual(link_table(yard), tuple(tuple(link(one, two) if one != two else 0 for two in yard)
                                                     for one in yard))


class LinkedLots(unittest.TestCase):
    def test_what_hangs_together(self):
        for yard in model.yards():
            self.assertEqual(linked_lots(yard), lots_of(link_table(yard)))

    def test_through_third_ones_in_whichever_order(self):
        aside = lab.moved(lab.SQUARE, (90, 0, 0))
        for order in itertools.permutations(lab.CHAIN):
            self.assertEqual(linked_lots(order), [(0, 1, 2, 3)])
        for order in itertools.permutations(lab.CHAIN[:3] + (aside,)):
            at = order.index(aside)
            rest = tuple(number for number in range(4) if number != at)
            self.assertEqual(linked_lots(order), sorted([rest, (at,)]))
        for order in itertools.permutations((lab.CHAIN[0], lab.CHAIN[1], lab.CHAIN[3], aside)):
            self.assertEqual(linked_lots(order), lots_of(link_table(order)))
            self.assertEqual(sorted(map(len, linked_lots(order))), [1, 1, 2])
        self.assertEqual(linked_lots(lab.CHAIN[::2]), [(0,), (1,)])
        self.assertEqual(linked_lots((lab.COIL,)), [(0,)])

    def test_each_list_is_new(self):
        first = linked_lots((lab.HOOP, lab.RING))
        self.assertIs(type(first), list)
        first.clear()
        self.assertEqual(linked_lots((lab.HOOP, lab.RING)), [(0, 1)])


if __name__ == "__main__":
    unittest.main()
