"""YARDS, BANDS and DEEDS as the tests tell them: by the words of section 2, from POINTS and vectors alone.

Nothing here is imported from the package, but for quarters_of, which is handed in where it is wanted.
"""

import random
from functools import lru_cache

import lab

WANTED = {"bend": 2, "out": 1, "in": 3, "hop": 2, "back": 6, "slide": 2, "begin": 1, "cut": 0}
UNDONE = {"bend": "bend", "out": "in", "in": "out", "hop": "back", "back": "hop"}


class Refused(Exception):
    """The name of the error with which a DEED is refused, and what it keeps."""

    def __init__(self, name, *kept):
        self.told = (name,) + kept


def where(cords):
    """Which POINT of which CORD is where."""
    return where_in(tuple(cords))


@lru_cache(maxsize=64)
def where_in(cords):
    return {spot: (number, at) for number, cord in enumerate(cords) for at, spot in enumerate(lab.walk(cord)[:-1])}


def are_apart(cords):
    return len(where(cords)) == sum(len(cord[1]) for cord in cords)


def refuse(cords, deed):
    """Raises Refused for a BAND or a place that is not there."""
    number, places = deed[1], WANTED[deed[0]]
    if number not in range(len(cords)):
        raise Refused("NoBand", number)
    strokes = cords[number][1]
    missing = [place for place in range(deed[2], deed[2] + places) if place not in range(len(strokes))]
    if missing:
        raise Refused("NoPlace", min(missing))


def are_square(u, v):
    return sum(a * b for a, b in zip(lab.VECTORS[u], lab.VECTORS[v])) == 0


def becomes(deed, row):
    """The strokes that come in the place of the row; None if deed is not done by these."""
    word = deed[0]
    if word == "bend" and are_square(*row):
        return (row[1], row[0])
    if word == "out" and are_square(row[0], deed[3]):
        return (deed[3], row[0], -deed[3])
    if word == "in" and row[0] + row[2] == 0 and are_square(row[0], row[1]):
        return (row[1],)
    if word == "hop" and row[0] == row[1] and are_square(row[0], deed[3]):
        a, b = row[0], deed[3]
        return (b, b, a, a, -b, -b)
    if word == "back":
        b, a = row[0], row[2]
        if are_square(a, b) and row == (b, b, a, a, -b, -b):
            return (a, a)
    return None


def over(cords, deed):
    """The number and place of stroke t, and t, at the POINT m of a hop or back; None if it goes over nothing."""
    start, strokes = cords[deed[1]]
    row = strokes[deed[2]:deed[2] + WANTED[deed[0]]]
    a, b = (row[0], deed[3]) if deed[0] == "hop" else (row[2], row[0])
    spot = lab.walk(cords[deed[1]])[deed[2]]
    middle = lab.added(lab.added(spot, lab.VECTORS[a]), lab.VECTORS[b])
    found = where(cords).get(middle)
    if found is None:
        return None
    number, at = found
    own = cords[number][1]
    comes, goes = own[at - 1], own[at]
    if comes != goes or not (are_square(comes, a) and are_square(comes, b)):
        return None
    return number, (at - 1) % len(own), comes


def sign_of(cords, deed):
    """h of a hop or back that can be done, and the number of the BAND that it goes over."""
    row = cords[deed[1]][1][deed[2]:deed[2] + WANTED[deed[0]]]
    a, b = (row[0], deed[3]) if deed[0] == "hop" else (row[2], row[0])
    number, _, t = over(cords, deed)
    sign = -lab.det_of(a, b, t)
    return (sign if deed[0] == "hop" else -sign), number


def bent_cord(cords, deed):
    """The CORD behind a DEED that changes strokes; raises Refused as done does."""
    refuse(cords, deed)
    word, number, place = deed[:3]
    start, strokes = cords[number]
    end = place + WANTED[word]
    new = becomes(deed, strokes[place:end])
    if new is None:
        raise Refused("Unfit")
    passed = lab.walk((lab.walk(cords[number])[place], new))[1:-1]
    taken = [spot for spot in passed if spot in where(cords)]
    if taken:
        raise Refused("Taken", min(taken))
    if word == "in" and len(strokes) == 4 or word in ("hop", "back") and over(cords, deed) is None:
        raise Refused("CanNot")
    return (start, strokes[:place] + new + strokes[end:])


def turns_behind(word, turns, change):
    """What becomes of the turns of the strokes that a DEED names."""
    own = list(turns)
    if word == "bend":
        own[1] -= change
    elif word == "out":
        own = [0, own[0] - change, 0]
    elif word == "in":
        own = [own[0] + own[1] + own[2] - change]
    elif word == "hop":
        own = [0, 0, own[0], own[1] - change, 0, 0]
    else:
        own = [own[0] + own[1] + own[2], own[3] + own[4] + own[5] - change]
    return tuple(own)


def behind(stand, deed, quarters_of):
    """The STAND behind deed, the change of QUARTERS being counted; raises Refused as done does."""
    word, number = deed[:2]
    cords = [cord for cord, _ in stand]
    refuse(cords, deed)
    cord, turns = stand[number]
    if word == "slide":
        own = list(turns)
        own[deed[2]] += deed[3]
        own[deed[2] + 1] -= deed[3]
        new = (cord, tuple(own))
    elif word == "begin":
        new = (lab.begun_at(cord, deed[2]), turns[deed[2]:] + turns[:deed[2]])
    elif word == "cut":
        new = (cord, (turns[0] + 4 * deed[2],) + turns[1:])
    else:
        led = bent_cord(cords, deed)
        change = quarters_of(led) - quarters_of(cord)
        if word in ("hop", "back"):
            sign, below = sign_of(cords, deed)
            change -= 8 * sign if below == number else 0
        end = deed[2] + WANTED[word]
        new = (led, turns[:deed[2]] + turns_behind(word, turns[deed[2]:end], change) + turns[end:])
    return stand[:number] + (new,) + stand[number + 1:]


def random_band(cord, seed):
    """A BAND of cord with random turns, the last one such that a SIDE comes home as it was."""
    rng = random.Random(seed)
    turns = [rng.randint(-9, 9) for _ in cord[1]]
    turns[-1] += -(home_of(cord) + sum(turns)) % 4 + 4 * rng.randint(-2, 2)
    return (cord, tuple(turns))


def carried_on(side, stroke, other):
    """The SIDE of a stroke carried plainly to the next one, as a vector: by the turn that leads one to the other."""
    a, b = lab.VECTORS[stroke], lab.VECTORS[other]
    along = sum(x * y for x, y in zip(side, b))
    return lab.less(side, lab.scaled(lab.added(a, b), along)) if a != b else side


def cross(u, v):
    return (u[1] * v[2] - u[2] * v[1], u[2] * v[0] - u[0] * v[2], u[0] * v[1] - u[1] * v[0])


def home_of(cord):
    """By how many quarters a SIDE of stroke 0 comes home turned."""
    strokes = cord[1]
    first = lab.VECTORS[strokes[0]]
    begin = lab.VECTORS[abs(strokes[0]) % 3 + 1]
    side = begin
    for stroke, other in zip(strokes, strokes[1:] + strokes[:1]):
        side = carried_on(side, stroke, other)
    quarters = [begin, cross(first, begin)]
    quarters += [lab.scaled(one, -1) for one in quarters]
    return quarters.index(side)


def edge_of(band):
    """The edge of a BAND as a closed row of edges, and how great a unit of space is beside its steps."""
    (start, strokes), turns = band
    unit = max(map(abs, turns)) + 6
    spots = [lab.scaled(spot, unit) for spot in lab.walk((start, strokes))]
    side = lab.VECTORS[abs(strokes[0]) % 3 + 1]
    line = []
    for at, (stroke, turn) in enumerate(zip(strokes, turns)):
        a, other = lab.VECTORS[stroke], strokes[(at + 1) % len(strokes)]
        spot = lab.added(spots[at], lab.scaled(a, 2))
        line.append(lab.added(spot, side))
        for _ in range(abs(turn)):
            new = cross(a, side) if turn > 0 else cross(side, a)
            line += [lab.added(spot, side), lab.added(spot, lab.added(side, new)), lab.added(spot, new)]
            spot, side = lab.added(spot, a), new
        new = carried_on(side, stroke, other)
        corner = lab.added(spots[at + 1], side)
        line.append(corner if new == side else lab.added(corner, new))
        side = new
    assert line[0] == lab.added(lab.added(spots[0], lab.scaled(lab.VECTORS[strokes[0]], 2)), side)
    line = [one for one, two in zip(line, line[1:] + line[:1]) if one != two]
    return list(zip(line, line[1:] + line[:1])), unit


def winding(rng, band):
    """How often CORD and edge of a BAND are linked, counted by a clean look."""
    edge, unit = edge_of(band)
    return lab.link_seen(rng, lab.edges(band[0], unit), edge, 10 ** 5)


def strand_deeds(cords, words=("bend", "out", "in", "hop", "back")):
    """All DEEDS with these words at all places that there are and some that there are not."""
    found = []
    for number, cord in enumerate(cords):
        for word in words:
            for place in range(-2, len(cord[1]) + 2):
                sided = word in ("out", "hop")
                found += [(word, number, place) + more for more in ([(side,) for side in lab.STROKES] if sided else [()])]
    return found


def doubled(cord):
    """The CORD twice as great."""
    return (lab.scaled(cord[0], 2), tuple(stroke for stroke in cord[1] for _ in range(2)))


def random_yard(rng, many, most):
    """A YARD of so many CORDS of at most so many strokes, woven into one another at random."""
    cords = []
    while len(cords) < many:
        tried = [one for one in [woven(rng, cords, most) for _ in range(12)] if are_apart(cords + [one])]
        if tried:
            cords.append(max(tried, key=lambda one: links_of(rng, cords, one)))
    return shaken(rng, cords, most)


def woven(rng, cords, most):
    """A CORD twice as great as a random one, somewhere near the others."""
    cord = doubled(lab.random_cord(rng, rng.choice(range(4, most // 2 + 1, 2))))
    # Moved by one along all axes it meets no CORD that is twice as great and not moved.
    by = tuple(2 * rng.randint(-1, 1) + len(cords) % 2 for _ in range(3))
    return lab.moved(cord, by)


def links_of(rng, cords, one):
    """How often a CORD is linked with others, without signs."""
    return sum(abs(lab.link_seen(rng, lab.edges(cord), lab.edges(one))) for cord in cords)


def shaken(rng, cords, most, words=("bend", "bend", "bend", "out", "in", "hop", "back")):
    """The YARD behind DEEDS at random places, each CORD of at most so many strokes."""
    cords = list(cords)
    for _ in range(30 * len(cords)):
        number = rng.randrange(len(cords))
        place = rng.randrange(len(cords[number][1]))
        deed = (rng.choice(words), number, 0)
        deed += (rng.choice(lab.STROKES),) if deed[0] in ("out", "hop") else ()
        tried = cords[:number] + [lab.begun_at(cords[number], place)] + cords[number + 1:]
        try:
            new = bent_cord(tried, deed)
        except Refused:
            continue
        if len(new[1]) <= most:
            cords[number] = new
    return tuple(cords)


@lru_cache(maxsize=None)
def yards():
    """YARDS of one to four CORDS, linked and not: known ones, random ones, great ones and far ones."""
    rng = random.Random(2011)
    aside = lab.moved(lab.SQUARE, (9, 0, 0))
    found = [(lab.COIL,), (lab.STAIRS,), (lab.LOOP,), (lab.HOOP, lab.RING), (lab.RING, lab.HOOP),
             (lab.HOOP, lab.THROUGH), (lab.HOOP, aside, lab.LONG_RING, lab.BEAD), (lab.LOW, lab.RING),
             (lab.LONG, lab.moved(lab.LONG, (0, 0, 1))), (lab.SQUARE, lab.moved(lab.SQUARE, (0, 0, 1))),
             (lab.WIDE, lab.TWICE), lab.CHAIN, (lab.CHAIN[0], lab.CHAIN[2], lab.CHAIN[3], lab.CHAIN[1])]
    for many, most in ((1, 12), (1, 40), (2, 12), (2, 20), (2, 40), (3, 16), (3, 30), (4, 12), (4, 20), (4, 40)):
        found += [random_yard(rng, many, most) for _ in range(4)]
    far = (10 ** 6, -10 ** 6, 10 ** 6)
    found += [tuple(lab.moved(cord, far) for cord in found[3]), tuple(lab.moved(cord, far) for cord in found[-1])]
    found.append((lab.moved(lab.COIL, far), lab.moved(lab.STAIRS, lab.scaled(far, -1))))
    return tuple(found)


# A hop of SILL at place 0 by 3 goes over STRAND, at (1, 0, 1): it comes to LIFTED.
SILL = ((0, 0, 0), (1, 1, -2, -1, -1, 2))
LIFTED = ((0, 0, 0), (3, 3, 1, 1, -3, -3, -2, -1, -1, 2))
STRAND = ((1, -2, 1), (2,) * 4 + (1,) * 4 + (-2,) * 4 + (-1,) * 4)
# One CORD at each of the five POINTS that the hop wants free, away from all else.
BLOCKS = (((0, 0, 1), (-1, 2, 1, -2)), ((0, 0, 2), (-1, 2, 1, -2)), ((1, 0, 2), (2, 3, -2, -3)),
          ((2, 0, 1), (1, 2, -1, -2)), ((2, 0, 2), (1, 2, -1, -2)))
# CORDS bent at (1, 0, 1): above it and below it; one at the POINT that the way back wants free.
BENT_ABOVE, BENT_BELOW = ((1, 0, 1), (2, 3, -2, -3)), ((1, 0, 1), (2, -3, -2, 3))
PLUG = ((1, 0, 0), (2, -3, -2, 3))
TURNS = tuple((a, b, c) for a in lab.STROKES for b in lab.STROKES for c in lab.STROKES if lab.det_of(a, b, c) != 0)


def led_by(cord, turn):
    """The CORD led by a TURN of space."""
    start = (0, 0, 0)
    for number, stroke in zip(cord[0], turn):
        start = lab.added(start, lab.scaled(lab.VECTORS[stroke], number))
    return (start, tuple(stroke_by(stroke, turn) for stroke in cord[1]))


def stroke_by(stroke, turn):
    """The STROKE to which a TURN leads this one."""
    return turn[abs(stroke) - 1] * (1 if stroke > 0 else -1)


def stand_of(cords, seed=1):
    """A STAND of these CORDS with random turns."""
    return tuple(random_band(cord, seed + at) for at, cord in enumerate(cords))


@lru_cache(maxsize=None)
def stands():
    """STANDS of one to four BANDS, some of them with hops and backs that can be done."""
    cords = list(yards())
    cords += [(SILL, STRAND), (STRAND, SILL), (LIFTED, STRAND), (SILL, BENT_ABOVE), (LIFTED, BENT_BELOW),
              (LIFTED, STRAND, PLUG)]
    cords += [(lab.LOOP, lab.moved(lab.LOOP, (0, 5, 0))), (lab.mirrored(lab.LOOP, 1),)]
    rng = random.Random(1213)
    for turn in TURNS[::5]:
        scene = [led_by(cord, turn) for cord in (SILL, STRAND, lab.moved(lab.LOOP, (0, 0, -9)))]
        cords.append(tuple(lab.begun_at(cord, rng.randrange(3)) for cord in scene))
    assert all(are_apart(yard) and all(lab.closes(cord) for cord in yard) for yard in cords)
    return tuple(stand_of(yard, 7 * at) for at, yard in enumerate(cords))
