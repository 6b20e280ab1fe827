"""What the tests share: CORDS of many kinds, and ways of their own to count what is told of them.

Nothing here is imported from the package.
"""

import random
from functools import lru_cache

SQUARE = ((0, 0, 0), (1, 2, -1, -2))
SKEW = ((0, 0, 0), (1, 2, 3, -2, -1, -3))
COIL = ((0, 0, 0), (1, 2, 1, 3, -1, -1, -2, -3))
HOOP = ((0, 0, 0), (1, 1, 2, 2, -1, -1, -2, -2))
RING = ((1, 1, 0), (3, 1, 1, -3, -3, -1, -1, 3))
# It goes straight up through a POINT one above the middle of its first two strokes.
LOOP = ((0, 0, 0), (1, 1, -3, 2, -1, 3, 3, -1, -2, -3))
LONG = ((0, 0, 0), (1,) * 19 + (2,) + (-1,) * 19 + (-2,))
WIDE = ((0, 0, 0), (3,) * 10 + (2,) * 10 + (-3,) * 10 + (-2,) * 10)
# Two stairs, one above the other: bent at each of their 40 POINTS.
STAIRS = ((0, 0, 0), (1, 2) * 9 + (1, 3, -1) + (-2, -1) * 9 + (-3,))

# LONG_RING goes up through HOOP and down through BEAD; THROUGH goes up through HOOP and comes back.
LONG_RING = ((1, 1, 0), (3, 1, 1, 1, 1, -3, -3, -1, -1, -1, -1, 3))
BEAD = ((4, 0, 0), (1, 1, 2, 2, -1, -1, -2, -2))
THROUGH = ((1, -1, 0), (1, 3, 3, -1, -1, -3, -3, 1))
LOW = ((0, 0, 0), (1, 1, -2, -1, -1, 2))

# TWICE goes round the strand of WIDE along axis 3 two times.
TWICE = ((-1, -1, 4), (1, 1, 2, 2, -1, -1, -2, 3, -2, 1, 1, 2, 2, -1, -1, -1, -3, -2, -2, 1))
# Four CORDS, each linked with the next one alone.
CHAIN = (((0, 0, 0), (1,) * 4 + (2,) * 4 + (-1,) * 4 + (-2,) * 4),
         ((2, 2, -2), (1,) * 6 + (3,) * 4 + (-1,) * 6 + (-3,) * 4),
         ((6, 0, 0), (1,) * 6 + (2,) * 4 + (-1,) * 6 + (-2,) * 4),
         ((10, 2, -2), (1,) * 6 + (3,) * 4 + (-1,) * 6 + (-3,) * 4))

STROKES = (-3, -2, -1, 1, 2, 3)
OCTANTS = tuple((a, b, c) for a in (1, -1) for b in (1, -1) for c in (1, -1))
FOUR_OCTANTS = ((1, 1, 1), (1, 1, -1), (1, -1, 1), (-1, 1, 1))
VECTORS = {1: (1, 0, 0), 2: (0, 1, 0), 3: (0, 0, 1), -1: (-1, 0, 0), -2: (0, -1, 0), -3: (0, 0, -1)}


def added(p, q):
    return tuple(a + b for a, b in zip(p, q))


def less(p, q):
    return tuple(a - b for a, b in zip(p, q))


def scaled(p, number):
    return tuple(a * number for a in p)


def det(u, v, w):
    """The determinant of three vectors."""
    return (u[0] * (v[1] * w[2] - v[2] * w[1]) - u[1] * (v[0] * w[2] - v[2] * w[0])
            + u[2] * (v[0] * w[1] - v[1] * w[0]))


def det_of(u, v, w):
    """[u, v, w] of three STROKES."""
    return det(VECTORS[u], VECTORS[v], VECTORS[w])


def opposite(octant):
    return scaled(octant, -1)


def walk(cord):
    """The POINTS of a CORD, and its end."""
    spots = [cord[0]]
    for stroke in cord[1]:
        spots.append(added(spots[-1], VECTORS[stroke]))
    return spots


def closes(cord):
    """Whether a start and STROKES make a CORD."""
    spots = walk(cord)
    return len(cord[1]) >= 4 and spots[-1] == spots[0] and len(set(spots[1:])) == len(cord[1])


def moved(cord, by):
    return (added(cord[0], by), cord[1])


def begun_at(cord, place):
    strokes = cord[1]
    return (walk(cord)[place], strokes[place:] + strokes[:place])


def told_back(cord):
    return (cord[0], tuple(-stroke for stroke in reversed(cord[1])))


def mirrored(cord, axis):
    """The CORD mirrored along one axis."""
    start = tuple(-part if at == axis - 1 else part for at, part in enumerate(cord[0]))
    return (start, tuple(-stroke if abs(stroke) == axis else stroke for stroke in cord[1]))


def turned_round(cord):
    """The CORD with axis 1 turned to 2, 2 to 3 and 3 to 1."""
    (x, y, z), strokes = cord
    goes = {1: 2, 2: 3, 3: 1, -1: -2, -2: -3, -3: -1}
    return ((z, x, y), tuple(goes[stroke] for stroke in strokes))


def shape(cord):
    """The unit edges of a CORD, moved to a corner: alike exactly for CORDS of one shape."""
    spots = walk(cord)
    low = tuple(min(spot[at] for spot in spots) for at in range(3))
    spots = [less(spot, low) for spot in spots]
    return frozenset(frozenset(pair) for pair in zip(spots, spots[1:]))


@lru_cache(maxsize=None)
def closed_rows(many):
    """All tuples of so many STROKES that make a CORD, wherever begun, whichever way gone."""
    found = []

    def grow(row, spot, seen):
        for stroke, vector in VECTORS.items():
            new = added(spot, vector)
            left = many - len(row) - 1
            if left == 0 and new == (0, 0, 0):
                found.append(row + (stroke,))
            elif left and new not in seen and sum(map(abs, new)) <= left:
                grow(row + (stroke,), new, seen | {new})

    grow((), (0, 0, 0), frozenset([(0, 0, 0)]))
    return tuple(found)


def edges(cord, by=1, shift=(0, 0, 0)):
    """The strokes as pairs of ends, with all numbers by as great, and moved by shift."""
    spots = [added(scaled(spot, by), shift) for spot in walk(cord)]
    return list(zip(spots, spots[1:]))


class Unclean(Exception):
    """A look sees an end, or two strokes of one axis, behind one another."""


def crossing(one, two, look):
    """The sign with which two strokes cross by a look, 0 if they do not."""
    (a, b), (c, d) = one, two
    u, w, gap = less(b, a), less(d, c), less(c, a)
    whole = det(u, scaled(w, -1), scaled(look, -1))
    if whole == 0:
        refuse_overlap(a, b, c, d, look)
        return 0
    on_u = det(gap, scaled(w, -1), scaled(look, -1))
    on_w = det(u, gap, scaled(look, -1))
    apart = det(u, scaled(w, -1), gap)
    if whole < 0:
        whole, on_u, on_w, apart = -whole, -on_u, -on_w, -apart
    if apart == 0 or not (0 <= on_u <= whole and 0 <= on_w <= whole):
        return 0
    if not (0 < on_u < whole and 0 < on_w < whole):
        raise Unclean()
    # a + on_u u is that of c + on_w w and apart of the look: p - q is the look, apart times.
    seen = det(u, w, look) * apart
    return 1 if seen > 0 else -1


def refuse_overlap(a, b, c, d, look):
    """Raises Unclean if the look sees a place of one stroke behind a place of one of the same axis."""
    axis = [at for at in range(3) if a[at] != b[at]][0]
    j, k = (axis + 1) % 3, (axis + 2) % 3
    ej, ek = a[j] - c[j], a[k] - c[k]
    if ej * look[k] != ek * look[j] or (ej, ek) == (0, 0):
        return
    # The difference of the places is look times ej / look[j]; along the axis it lies between these two.
    least = min(a[axis], b[axis]) - max(c[axis], d[axis])
    most = max(a[axis], b[axis]) - min(c[axis], d[axis])
    along, by = look[axis] * ej, look[j]
    if by < 0:
        along, by = -along, -by
    if least * by <= along <= most * by:
        raise Unclean()


def seen_self(cord, look):
    """The signs of the CROSSINGS of a CORD by a look, added up; Unclean if the look is not clean."""
    rows = edges(cord)
    return sum(crossing(rows[i], rows[j], look) for j in range(len(rows)) for i in range(j))


def pushed_link_seen(cord, octant, look):
    """The LINK of a CORD with itself moved by a fifth into octant, by a look."""
    rows = edges(cord, 5)
    own = edges(cord, 5, octant)
    signs = sum(crossing(one, two, look) for one in rows for two in own)
    assert signs % 2 == 0
    return signs // 2


def clean_sight(rng, octant, told, great=7):
    """What told(look) tells by a random clean look of the octant."""
    while True:
        look = tuple(sign * rng.randint(1, great) for sign in octant)
        try:
            return told(look)
        except Unclean:
            great += 3


def is_seen_clean(yard, look):
    """Whether a look is clean for a YARD."""
    rows = [edge for cord in yard for edge in edges(cord)]
    try:
        for j in range(len(rows)):
            for i in range(j):
                crossing(rows[i], rows[j], look)
    except Unclean:
        return False
    return True


def crossings_seen(one, two, look):
    """The list, ascending, of (i, j, sign) of two lists of edges by a look; Unclean if an end is seen."""
    found = []
    for i, first in enumerate(one):
        for j, second in enumerate(two):
            sign = crossing(first, second, look)
            found += [(i, j, sign)] if sign else []
    return found


def link_seen(rng, one, two, great=7):
    """Half of the signs with which two closed rows of edges cross by some clean look."""
    signs = clean_sight(rng, rng.choice(OCTANTS), lambda look: sum(row[2] for row in crossings_seen(one, two, look)),
                        great)
    assert signs % 2 == 0
    return signs // 2


def bent(cord, place):
    """The CORD with the strokes place and place + 1 in the place of one another; None if it is none."""
    start, strokes = cord
    new = (start, strokes[:place] + (strokes[place + 1], strokes[place]) + strokes[place + 2:])
    return new if abs(strokes[place]) != abs(strokes[place + 1]) and closes(new) else None


def bumped(cord, place, side):
    start, strokes = cord
    new = (start, strokes[:place] + (side, strokes[place], -side) + strokes[place + 1:])
    return new if abs(side) != abs(strokes[place]) and closes(new) else None


def drawn(cord, place):
    """The CORD with its strokes place to place + 2, s, a, -s, made a; None if it is none."""
    start, strokes = cord
    row = strokes[place:place + 3]
    if len(row) < 3 or row[0] != -row[2] or abs(row[0]) == abs(row[1]) or len(strokes) == 4:
        return None
    return (start, strokes[:place] + row[1:2] + strokes[place + 3:])


def hopped(cord, place, side):
    """The CORD behind a hop, its sign (0 if it goes over no strand of its own); None if it can not be."""
    start, strokes = cord
    row = strokes[place:place + 2]
    if len(row) < 2 or row[0] != row[1] or abs(row[0]) == abs(side):
        return None
    a = row[0]
    new = (start, strokes[:place] + (side, side, a, a, -side, -side) + strokes[place + 2:])
    spots = walk(cord)
    middle = added(spots[place + 1], VECTORS[side])
    if not closes(new):
        return None
    if middle not in spots:
        return new, 0
    at = spots.index(middle)
    comes, goes = strokes[at - 1], strokes[at]
    if comes != goes or abs(comes) in (abs(a), abs(side)):
        return None
    return new, -det_of(a, side, comes)


def around(cord, first, last):
    """The strokes ahead of number first and behind number last, round the end."""
    strokes = cord[1]
    return strokes[first - 1], strokes[(last + 1) % len(strokes)]


def random_cord(rng, many, axes=(1, 2, 3)):
    """A CORD of so many strokes, bent, bumped, drawn in and hopped at random along these axes."""
    cord = ((0, 0, 0), (axes[0], axes[1], -axes[0], -axes[1]))
    sides = [side for axis in axes for side in (axis, -axis)]
    steps = 0
    while len(cord[1]) != many or steps < 6 * many:
        steps += 1
        cord = begun_at(cord, rng.randrange(len(cord[1])))
        word, side = rng.choice(("bend", "bend", "bump", "bump", "draw", "hop")), rng.choice(sides)
        new = None
        if word == "bend":
            new = bent(cord, 0)
        elif word == "bump" and len(cord[1]) + 2 <= many:
            new = bumped(cord, 0, side)
        elif word == "draw" and (rng.random() < 0.2 or len(cord[1]) > many):
            new = drawn(cord, 0)
        elif word == "hop" and len(cord[1]) + 4 <= many:
            told = hopped(cord, 0, side)
            new = told and told[0]
        cord = new or cord
    return cord


@lru_cache(maxsize=None)
def short_cords():
    """All CORDS of 4, 6 and 8 strokes with start (0, 0, 0) that have unlike shapes, each told once."""
    return tuple({shape(((0, 0, 0), row)): ((0, 0, 0), row)
                  for many in (4, 6, 8) for row in closed_rows(many)}.values())


@lru_cache(maxsize=None)
def great_cords():
    """CORDS of many lengths up to 40: random ones in space and planes, straight ones, bent ones, far ones."""
    rng = random.Random(1119)
    found = [LONG, WIDE, STAIRS, LOOP, mirrored(LOOP, 2), HOOP, RING]
    for many in (10, 12, 14, 18, 22, 26, 30, 34, 38, 40, 40, 40):
        found.append(random_cord(rng, many))
        found.append(random_cord(rng, many))
    for many, axes in ((10, (1, 2)), (24, (2, 3)), (40, (3, 1)), (40, (1, 2))):
        found.append(random_cord(rng, many, axes))
    far = (10 ** 6, -10 ** 6, 10 ** 6)
    found += [moved(COIL, far), moved(STAIRS, scaled(far, -1)), moved(found[-5], (-7, 10 ** 6, -10 ** 6))]
    return tuple(found)


def all_kinds():
    """Short and great CORDS together."""
    return short_cords() + great_cords()


def as_lists(value):
    """The same value with lists in the place of tuples, at each depth."""
    return [as_lists(part) for part in value] if isinstance(value, tuple) else value


def as_tuples(value):
    return tuple(as_tuples(part) for part in value) if isinstance(value, (list, tuple)) else value


def listed(value):
    """The ways to tell a tuple of tuples and plain values with a list in the place of one tuple or of all."""
    if not isinstance(value, tuple):
        return []
    found = [list(value), as_lists(value)]
    for at, part in enumerate(value):
        found += [value[:at] + (told,) + value[at + 1:] for told in listed(part)]
    return found


def never_ending():
    """A list that contains itself."""
    own = [0, 0]
    own[1] = own
    return own


# What is no CORD, whether told by tuples or by lists.
NO_CORDS = (
    None, True, 0, 5, "", "cord", "ab", b"ab", 0.5, {}, {"start": 1, "strokes": 2}, {1, 2}, object(), len,
    (), [], (0, 0, 0), ((0, 0, 0),), ((0, 0, 0), (1, 2, -1, -2), ()), ((0, 0, 0), (1, 2, -1, -2), 0),
    ((1, 2, -1, -2), (0, 0, 0)), (None, None), ("abc", "abcd"), ((0, 0, 0), "1234"), ((0, 0, 0), None),
    ((0, 0, 0), 4), ({}, {}), (0, (1, 2, -1, -2)), (None, (1, 2, -1, -2)), ("000", (1, 2, -1, -2)),
    ((0, 0), (1, 2, -1, -2)), ((0, 0, 0, 0), (1, 2, -1, -2)), ((), (1, 2, -1, -2)),
    ((0, 0, True), (1, 2, -1, -2)), ((False, 0, 0), (1, 2, -1, -2)), ((0, None, 0), (1, 2, -1, -2)),
    ((0, "0", 0), (1, 2, -1, -2)), (((0,), 0, 0), (1, 2, -1, -2)), ((0.0, 0, 0), (1, 2, -1, -2)),
    ((0, 0, 0), ()), ((0, 0, 0), (1,)), ((0, 0, 0), (1, -1)), ((0, 0, 0), (1, 2, -1)),
    ((0, 0, 0), (1, 2, -1, 2)), ((0, 0, 0), (1, 2, -2, -1)), ((0, 0, 0), (1, -1, 1, -1)),
    ((0, 0, 0), (1, 2, -1, -2, 3)), ((0, 0, 0), (1, 2, 3, -1, -2)), ((0, 0, 0), (1, 2, -1, -2) * 2),
    ((0, 0, 0), (1, 2, -1, -2, -1, -2, 1, 2)), ((0, 0, 0), (1, 1, 2, -1, -2, -2, -1, 2)),
    ((0, 0, 0), (1, 2, 3, -3, -1, -2)), ((0, 0, 0), (1, -1, 1, 2, -1, -2)),
    ((0, 0, 0), (True, 2, -1, -2)), ((0, 0, 0), (1, 2, -True, "-2")), ((0, 0, 0), (1, 2, -1, None)),
    ((0, 0, 0), (4, 2, -4, -2)), ((0, 0, 0), (1, 0, -1, 0)), ((0, 0, 0), (1, 2, -1, -2, 0)),
    ((0, 0, 0), ((1,), 2, -1, -2)), ((0, 0, 0), (1.0, 2, -1, -2)), ((0, 0, 0), (10 ** 30, 2, -1, -2)),
    (SQUARE,), (SQUARE, SQUARE), ((((((((((((1,),),),),),),),),),),),), never_ending(),
    ((0, 0, 0), never_ending()),
)

NO_YARDS = (
    tuple(bad for bad in NO_CORDS if bad != (SQUARE,)) + tuple((bad,) for bad in NO_CORDS)
    + tuple((COIL, bad) for bad in NO_CORDS) + tuple((bad, COIL) for bad in NO_CORDS)
    + ((COIL, COIL), (SQUARE, HOOP), (RING, HOOP, SQUARE), (LONG, STAIRS), SQUARE, COIL)
)

NO_TURNS = (
    None, 0, "", "0000", {}, object(), (), (0,), (0, 0, 0), (0,) * 5, (0, 0, 0, True), (False, 0, 0, 0),
    (0, 0, None, 0), (0, "0", 0, 0), (0, 0, 0, (0,)), (0.0, 0, 0, 0), never_ending(), ((0, 0, 0, 0),),
)

NO_BANDS = (
    NO_CORDS + (SQUARE, COIL, (SQUARE,), (SQUARE, (0,) * 4, 0), ((0,) * 4, SQUARE), (SQUARE, SQUARE))
    + tuple((bad, (0,) * 4) for bad in NO_CORDS) + tuple((SQUARE, turns) for turns in NO_TURNS)
    + ((SQUARE, (0, 0, 0, 1)), (SQUARE, (1, 1, 0, 0)), (SQUARE, (-1, 0, 0, 0)), (COIL, (0,) * 8), (COIL, (0,) * 9),
       (COIL, (0,) * 7 + (2,)), (COIL, (0,) * 7 + (-1,)), (COIL, (1,)), (SKEW, (0, 0, 0, 2, 0, 0)))
)

FLAT, WOUND = (SQUARE, (0, 0, 0, 0)), (COIL, (0, 0, 0, 0, 0, 0, 0, 1))
# BAND_HIGH hops with its edge over the one of BAND_LOW, and goes through it then: BAND_HIGH_LED.
BAND_LOW = (((0, -1, 0), (2, 2, -3, -3, -2, -2, 3, 3)), (0,) * 8)
BAND_HIGH = (((-1, 0, 1), (1, 1, 3, -1, -1, -3)), (0,) * 6)
BAND_HIGH_LED = (((-1, 0, 1), (-3, -3, 1, 1, 3, 3, 3, -1, -1, -3)), (0,) * 10)
NO_STANDS = (
    NO_BANDS + tuple((bad,) for bad in NO_BANDS) + tuple((WOUND, bad) for bad in NO_BANDS)
    + tuple((bad, WOUND) for bad in NO_BANDS) + (FLAT, WOUND, (FLAT, FLAT), (WOUND, FLAT), (FLAT, (HOOP, (0,) * 8)))
)
