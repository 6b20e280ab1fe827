"""[19]: joins.py."""

import random
import unittest
from collections import Counter
from functools import lru_cache

import lab
import model
import walks
from fourlooks.cords import is_cord, is_yard
from fourlooks.joins import can_join, can_part, join_change, joined, joins, parted, parted_link, parts
from fourlooks.links import link
from fourlooks.quarters import quarters

FAR = 10 ** 6
LAP = ((1, -1, 0), (-1, -2, 1, 2))
# It goes through HOOP, and beside it for two strokes.
HOOK = ((1, 1, 0), (3, 1, -2, -1, -2, -3, -3, 2, 2, 3))


@lru_cache(maxsize=None)
def spots_of(cord):
    return lab.walk(cord)


def beside(cord, place, other, number, side):
    """Whether two CORDS can be joined there, by vectors."""
    if other[1][number] != -cord[1][place]:
        return False
    a, u = lab.VECTORS[cord[1][place]], lab.VECTORS[side]
    begin = lab.added(spots_of(cord)[place], lab.added(a, u))
    return sum(x * y for x, y in zip(a, u)) == 0 and spots_of(other)[number] == begin


def triples(cord, other):
    """All triples of a stroke, a stroke and a side."""
    return [(place, number, side) for place in range(len(cord[1])) for number in range(len(other[1]))
            for side in lab.STROKES]


def joined_by_hand(cord, place, other, number, side):
    """The strokes of other gone round from behind number, one by one."""
    strokes = list(cord[1][:place]) + [side]
    for k in range(1, len(other[1])):
        strokes.append(other[1][(number + k) % len(other[1])])
    return (cord[0], tuple(strokes + [-side]) + cord[1][place + 1:])


def partings(cord):
    """A dict: for each pair (place, number) that can be parted the STROKE a, by POINTS."""
    strokes, spots, many = cord[1], lab.walk(cord), len(cord[1])
    found = {}
    for place in range(many):
        for number in range(many):
            on = (number - place - 1) % many
            if place == number or strokes[number] != -strokes[place] or not 3 <= on <= many - 5:
                continue
            gap = lab.less(spots[number], spots[place + 1])
            for a in lab.STROKES:
                if lab.VECTORS[a] == gap and abs(a) != abs(strokes[place]):
                    found[place, number] = a
    return found


def parted_by_hand(cord, place, number, a):
    """Both CORDS, gone stroke by stroke."""
    strokes, spots, many = cord[1], lab.walk(cord), len(cord[1])

    def gone(at, end):
        row = []
        while (at + 1) % many != end:
            at = (at + 1) % many
            row.append(strokes[at])
        return tuple(row)

    return ((spots[place], (a,) + gone(number, place)), (spots[place + 1], gone(place, number) + (-a,)))


@lru_cache(maxsize=None)
def pairs():
    """CORDS without a common POINT: of YARDS, and such as run beside one another."""
    rng = random.Random(19)
    found = [(lab.SQUARE, LAP), (lab.SKEW, LAP), (lab.HOOP, HOOK), (lab.HOOP, lab.RING), (lab.LONG, lab.moved(lab.COIL, (0, 2, 0)))]
    for yard in model.yards():
        found += [(one, two) for one in yard for two in yard if one != two][:2]
    # Beside a CORD a square that goes the other way.
    for cord in lab.great_cords() + lab.short_cords()[::9]:
        for _ in range(3):
            place, side = rng.randrange(len(cord[1])), rng.choice(lab.STROKES)
            a = cord[1][place]
            if abs(side) != abs(a):
                spot = lab.added(lab.walk(cord)[place], lab.added(lab.VECTORS[a], lab.VECTORS[side]))
                out = rng.choice([one for one in lab.STROKES if abs(one) != abs(a) and one != -side])
                other = lab.begun_at((spot, (-a, out, a, -out)), rng.randrange(4))
                if model.are_apart((cord, other)):
                    found.append((cord, other))
    found += [tuple(lab.moved(cord, (FAR, -FAR, FAR)) for cord in pair) for pair in found[:3]]
    return tuple(found)


@lru_cache(maxsize=None)
def joints():
    """The pairs that can be joined, with the ways."""
    rng = random.Random(20)
    found = []
    for one, two in pairs():
        for cord, other in ((one, two), (two, one)):
            ways = [own for own in triples(cord, other) if beside(cord, own[0], other, *own[1:])]
            found += [(cord, other) + own for own in rng.sample(ways, min(3, len(ways)))]
    return tuple(found)


class Joins(unittest.TestCase):
    def test_all_triples_beside_vectors(self):
        many = 0
        for one, two in pairs():
            told = joins(one, two)
            self.assertEqual(told, [own for own in triples(one, two) if beside(one, own[0], two, *own[1:])])
            self.assertIs(type(told), list)
            many += len(told)
        self.assertGreater(many, 60)

    def test_either_cord_may_be_told_first(self):
        # The stroke of other begins one a and one side on from that of cord; so does that one from it, by -a and -side.
        for one, two in pairs():
            self.assertEqual(joins(two, one), sorted((number, place, -side) for place, number, side in joins(one, two)))

    def test_can_join_tells_the_same(self):
        for one, two in pairs()[::4]:
            told = joins(one, two)
            for own in triples(one, two)[::5] + told:
                self.assertIs(can_join(one, own[0], two, *own[1:]), own in told)

    def test_near_misses(self):
        cord, other = lab.SQUARE, LAP
        self.assertEqual(joins(cord, other), [(0, 0, -2)])
        for by in ((0, -1, 0), (1, 0, 0), (-1, 0, 0), (0, 0, 1)):
            self.assertEqual(joins(cord, lab.moved(other, by)), [])
        # It goes the same way as the stroke beside it.
        self.assertEqual(joins(cord, lab.told_back(lab.begun_at(other, 1))), [])
        # By one along the stroke: the side would be on the stroke's own axis.
        ahead = lab.moved(lab.SQUARE, (2, 0, 0))
        for own in triples(cord, ahead):
            self.assertIs(can_join(cord, own[0], ahead, *own[1:]), beside(cord, own[0], ahead, *own[1:]))

    def test_round_the_ends(self):
        for place in range(4):
            for number in range(4):
                one, two = lab.begun_at(lab.SQUARE, place), lab.begun_at(LAP, number)
                self.assertEqual(joins(one, two), [(-place % 4, -number % 4, -2)])

    def test_each_list_is_new(self):
        first = joins(lab.SQUARE, LAP)
        first.clear()
        self.assertEqual(joins(lab.SQUARE, LAP), [(0, 0, -2)])


class Joined(unittest.TestCase):
    def test_stroke_by_stroke(self):
        self.assertGreater(len(joints()), 60)
        for cord, other, place, number, side in joints():
            told = joined(cord, place, other, number, side)
            self.assertEqual(told, joined_by_hand(cord, place, other, number, side))
            self.assertTrue(is_cord(told))
            self.assertEqual(len(told[1]), len(cord[1]) + len(other[1]))
            self.assertEqual(set(lab.walk(told)), set(lab.walk(cord) + lab.walk(other)))

    def test_first_strokes_and_last_ones(self):
        places, numbers = set(), set()
        for cord, other, place, number, side in joints():
            for at in {place, (place + 1) % len(cord[1])}:
                own, to = lab.begun_at(cord, at), (place - at) % len(cord[1])
                for by in {number, (number + 1) % len(other[1])}:
                    two, end = lab.begun_at(other, by), (number - by) % len(other[1])
                    self.assertEqual(joined(own, to, two, end, side), joined_by_hand(own, to, two, end, side))
                    places |= {"first"} if to == 0 else {"last"} if to == len(cord[1]) - 1 else set()
                    numbers |= {"first"} if end == 0 else {"last"} if end == len(other[1]) - 1 else set()
        self.assertEqual((places, numbers), ({"first", "last"}, {"first", "last"}))

    def test_quarters_of_both_8_link_and_four_determinants(self):
        seen = Counter()
        for cord, other, place, number, side in joints():
            told = joined(cord, place, other, number, side)
            change = join_change(cord, place, other, number, side)
            self.assertEqual(quarters(told), quarters(cord) + quarters(other) + 8 * link(cord, other) + change)
            seen[change] += 1
            seen["linked"] += link(cord, other) != 0
        self.assertGreater(len(seen), 4)
        self.assertGreater(seen["linked"], 3)

    def test_the_four_determinants(self):
        for cord, other, place, number, side in joints():
            a, one, two = cord[1][place], cord[1], other[1]
            own = [one[place - 1], one[(place + 1) % len(one)], two[number - 1], two[(number + 1) % len(two)]]
            told = join_change(cord, place, other, number, side)
            self.assertEqual(told, sum(lab.det_of(side, a, x) for x in own))

    def test_what_is_joined_is_parted_again(self):
        for cord, other, place, number, side in joints():
            told = joined(cord, place, other, number, side)
            end = place + len(other[1])
            self.assertIn((place, end), parts(told))
            back = parted(told, place, end)
            self.assertEqual(back, (lab.begun_at(cord, place), lab.begun_at(other, (number + 1) % len(other[1]))))
            self.assertEqual(parted_link(told, place, end), link(cord, other))

    def test_what_can_not_be_joined_is_unfit(self):
        for one, two in pairs()[::5]:
            told = joins(one, two)
            for own in triples(one, two)[::7]:
                error = None if own in told else ("Unfit",)
                for function in (joined, join_change):
                    self.assertEqual(walks.told_error(function, one, own[0], two, *own[1:]), error)

    def test_places_and_numbers_that_are_not_there(self):
        for one, two in pairs()[::9]:
            many, more = len(one[1]), len(two[1])
            for function in (can_join, joined, join_change):
                for place in (-1, -many, many, many + 1, FAR, -FAR):
                    for number in (-1, 0, more):
                        self.assertEqual(walks.told_error(function, one, place, two, number, 1), ("NoPlace", place))
                for number in (-1, -more, more, more + 1, FAR, -FAR):
                    for side in lab.STROKES:
                        self.assertEqual(walks.told_error(function, one, 0, two, number, side), ("NoPlace", number))

    def test_a_common_point_is_unfit_ahead_of_all(self):
        for one, two in ((lab.SQUARE, lab.SQUARE), (lab.SQUARE, lab.HOOP), (lab.COIL, lab.moved(lab.COIL, (1, 0, 0))),
                         (lab.SQUARE, lab.moved(lab.SQUARE, (1, 1, 0)))):
            for function in (can_join, joined, join_change):
                for place, number, side in ((-1, 0, 1), (0, -1, 1), (9, 9, 3), (0, 0, 2), (0, 0, -2)):
                    self.assertEqual(walks.told_error(function, one, place, two, number, side), ("Unfit",))
            self.assertEqual(walks.told_error(joins, one, two), ("Unfit",))


@lru_cache(maxsize=None)
def folded():
    """CORDS with strokes that run beside one another: joined ones, great ones, short ones."""
    found = [joined_by_hand(*[joint[k] for k in (0, 2, 1, 3, 4)]) for joint in joints()]
    return tuple(found[::2]) + lab.great_cords() + lab.short_cords()[::5]


class Parts(unittest.TestCase):
    def test_all_pairs_beside_points(self):
        many = 0
        for cord in folded():
            told = parts(cord)
            self.assertEqual(told, sorted(partings(cord)))
            self.assertIs(type(told), list)
            many += len(told)
        self.assertGreater(many, 200)

    def test_can_part_tells_the_same(self):
        for cord in folded()[::3]:
            told, many = parts(cord), len(cord[1])
            for place in range(many):
                for number in range(many):
                    self.assertIs(can_part(cord, place, number), (place, number) in told)

    def test_three_between_and_two(self):
        for flat in range(2, 8):
            # Two long sides, one beside the other: of as many strokes as flat tells.
            cord = ((0, 0, 0), (1,) * flat + (2,) + (-1,) * flat + (-2,))
            many = len(cord[1])
            for place in range(flat):
                number = 2 * flat - place
                on, round_the_end = number - place - 1, many - number + place - 1
                self.assertIs(can_part(cord, place, number), on >= 3 and round_the_end >= 3)
                self.assertIs(can_part(cord, number, place), on >= 3 and round_the_end >= 3)
        ten = ((0, 0, 0), (1,) * 4 + (2,) + (-1,) * 4 + (-2,))
        self.assertEqual(parts(ten), [(1, 7), (2, 6), (6, 2), (7, 1)])
        # 3 between on one way, 2 on the other one; 3 and 3.
        self.assertEqual(parts(((0, 0, 0), (1,) * 3 + (2,) + (-1,) * 3 + (-2,))), [(1, 5), (5, 1)])
        self.assertEqual(parts(lab.SQUARE), [])
        self.assertEqual(parts(((0, 0, 0), (1, 1, 2, -1, -1, -2))), [])

    def test_each_pair_both_ways(self):
        # The way from the end of the one to the begin of the other one is back from that one's end to its begin.
        for cord in folded():
            self.assertEqual(parts(cord), sorted((number, place) for place, number in parts(cord)))

    def test_wherever_begun(self):
        for cord in folded()[::8]:
            many = len(cord[1])
            for at in range(many):
                own = parts(lab.begun_at(cord, at))
                self.assertEqual(own, sorted(((place - at) % many, (number - at) % many) for place, number in parts(cord)))

    def test_each_list_is_new(self):
        first = parts(lab.LONG)
        kept = list(first)
        first.clear()
        self.assertEqual(parts(lab.LONG), kept)


class Parted(unittest.TestCase):
    def test_stroke_by_stroke(self):
        for cord in folded():
            for (place, number), a in list(partings(cord).items())[::3]:
                told = parted(cord, place, number)
                self.assertEqual(told, parted_by_hand(cord, place, number, a))
                self.assertTrue(is_yard(told))
                self.assertEqual(set(lab.walk(told[0]) + lab.walk(told[1])), set(lab.walk(cord)))
                self.assertEqual(parted_link(cord, place, number), link(*told))

    def test_round_the_end(self):
        for at in range(10):
            cord = lab.begun_at(((0, 0, 0), (1,) * 4 + (2,) + (-1,) * 4 + (-2,)), at)
            for (place, number), a in partings(cord).items():
                self.assertEqual(parted(cord, place, number), parted_by_hand(cord, place, number, a))

    def test_what_is_parted_is_joined_again(self):
        for cord in folded()[::2]:
            for place, number in parts(cord)[::4]:
                one, two = parted(cord, place, number)
                last = len(two[1]) - 1
                self.assertIn((0, last, cord[1][place]), joins(one, two))
                self.assertEqual(joined(one, 0, two, last, cord[1][place]), lab.begun_at(cord, place))

    def test_linked_ones(self):
        own = joined(lab.HOOP, 1, HOOK, 3, 3)
        self.assertEqual(abs(parted_link(own, 1, 11)), 1)
        self.assertEqual(parted_link(own, 1, 11), link(lab.HOOP, HOOK))

    def test_what_can_not_be_parted_is_unfit(self):
        for cord in folded()[::6]:
            told, many = parts(cord), len(cord[1])
            for place in range(0, many, 2):
                for number in range(many):
                    error = None if (place, number) in told else ("Unfit",)
                    for function in (parted, parted_link):
                        self.assertEqual(walks.told_error(function, cord, place, number), error)

    def test_places_and_numbers_that_are_not_there(self):
        for cord in (lab.SQUARE, lab.LONG, lab.STAIRS):
            many = len(cord[1])
            for function in (can_part, parted, parted_link):
                for bad in (-1, -many, many, many + 1, FAR, -FAR):
                    for other in (-2, 0, many + 7):
                        self.assertEqual(walks.told_error(function, cord, bad, other), ("NoPlace", bad))
                    self.assertEqual(walks.told_error(function, cord, many - 1, bad), ("NoPlace", bad))


if __name__ == "__main__":
    unittest.main()
