"""ROOMS, and the PLANS that need them: round plans, by which S changes by two, and whole plans."""

from fourlooks.bands import whole
from fourlooks.cords import check_place, told_cord
from fourlooks.deeds import Ground, check_band, told_stand
from fourlooks.errors import CanNot, TooMany, Unfit
from fourlooks.plans import behind_plan, end_of, have_same_cords, slides
from fourlooks.spaces import turned_point, turned_stroke
from fourlooks.strokes import STROKES, are_unlike, is_number, is_stroke, upright_to, walked

# The POINTS of a ROOM from the begin of its stroke: so many along it, so many aside, so many up.
ROOM = ((0, 0, 1), (0, 0, 2), (0, 0, 3), (1, 0, 1), (1, 0, 2), (1, 0, 3), (1, 0, 4), (2, 0, 3), (2, 1, 3), (2, 1, 4),
        (1, 1, 2), (1, 1, 3), (1, 1, 4), (1, -1, 1), (1, -1, 2), (1, -1, 3), (1, -1, 4),
        (1, -2, 1), (1, -2, 2), (1, -2, 3), (1, -2, 4))
# What a stroke does in a ROOM of hand 1, with places told from its own, sides by 1 along it, 2 aside, 3 up: it goes
# up, comes down behind itself, hops with one strand over the other, and is drawn in again the other way out.
# There is no shorter way within these POINTS.
ROUND = (("out", 0, 3), ("out", 1, 3), ("out", 2, 3), ("out", 4, -2), ("out", 4, 3), ("out", 4, 2), ("out", 4, 1),
         ("bend", 6), ("out", 10, -2), ("bend", 12), ("out", 13, -3), ("in", 15), ("hop", 8, -3),
         ("in", 6), ("in", 4), ("in", 4), ("in", 2), ("in", 5), ("in", 4), ("in", 4), ("in", 3), ("in", 1), ("in", 0))


def room_points(cord, place, up, hand):
    """The set of the 21 POINTS that a ROOM with this stroke, up and hand wants free."""
    start, strokes = told_cord(cord)
    check_place(place, strokes)
    if not _is_up(up, strokes[place]):
        raise Unfit()
    return tuple(sorted(_spots(walked(start, strokes)[place], _frame(strokes[place], up, hand))))


def _is_up(up, stroke):
    """Whether up is a STROKE of another axis than stroke."""
    return is_stroke(up) and are_unlike(up, stroke)


def _frame(stroke, up, hand):
    """The STROKES along, aside and up, told as the TURN that leads 1, 2 and 3 to them."""
    return (stroke, hand * upright_to(up, stroke), up)


def _spots(begin, frame):
    """The list of the POINTS of a ROOM whose stroke begins at this POINT."""
    return [tuple([one + two for one, two in zip(begin, turned_point(spot, frame))]) for spot in ROOM]


def rooms(stand, number):
    """The list, ascending, of the ROOMS of BAND number."""
    told = told_stand(stand)
    check_band(told, number)
    ground = Ground(told)
    triples = [(place, up, hand) for place in range(len(told[number][1])) for up in STROKES for hand in (-1, 1)]
    return [room for room in triples if _is_free(ground, number, room)]


def _is_free(ground, number, room):
    """Whether a place, a STROKE and a hand are a ROOM of BAND number."""
    place, up, hand = room
    stroke = ground.bands[number][0][1][place]
    if not _is_up(up, stroke):
        return False
    spots = _spots(ground.points[number][place], _frame(stroke, up, hand))
    return not any([spot in ground.spots for spot in spots])


def round_plan(stand, number, room):
    """A PLAN of 23 DEEDS of BAND number in room, behind which the turn there is less by 8 for each hand."""
    told = told_stand(stand)
    check_band(told, number)
    own = tuple(room) if isinstance(room, list) else room
    if not _is_room(told, number, own):
        raise Unfit()
    return _round_deeds(told, number, own)


def _is_room(stand, number, value):
    """Whether value is a ROOM of BAND number."""
    if not (isinstance(value, tuple) and len(value) == 3 and all([is_number(part) for part in value])):
        return False
    place, up, hand = value
    return 0 <= place < len(stand[number][1]) and hand in (1, -1) and _is_free(Ground(stand), number, value)


def _round_deeds(stand, number, room):
    """The DEEDS of a round plan of BAND number in its ROOM."""
    place, up, hand = room
    frame = _frame(stand[number][0][1][place], up, hand)
    deeds = []
    for deed in ROUND:
        side = tuple([turned_stroke(part, frame) for part in deed[2:]])
        deeds.append((deed[0], number, place + deed[1]) + side)
    return tuple(deeds)


def is_round_plan(stand, number, thing):
    """Whether thing is a PLAN without cuts, with just one hop or back, of BAND number, that leads to the same CORDS."""
    told = told_stand(stand)
    check_band(told, number)
    end = end_of(told, thing)
    if end is None or not have_same_cords(told, end):
        return False
    return not has_cuts(thing) and [deed[1] for deed in hops_of(thing)] == [number]


def has_cuts(plan):
    """Whether there is a cut among these DEEDS."""
    return "cut" in [deed[0] for deed in plan]


def hops_of(plan):
    """The list of the hops and backs among these DEEDS."""
    return [deed for deed in plan if deed[0] in ("hop", "back")]


def fewest_hops(stand, other):
    """How many hops and backs a PLAN without cuts has at the least that leads from stand to other."""
    one, two = told_stand(stand), told_stand(other)
    falls = _falls(one, two)
    if _differ_oddly(falls):
        raise CanNot()
    return _hops_for(falls)


def _falls(stand, other):
    """For each BAND by how much its S must fall; Unfit() if the STANDS have other CORDS."""
    if not have_same_cords(stand, other):
        raise Unfit()
    return [whole(one) - whole(two) for one, two in zip(stand, other)]


def _differ_oddly(falls):
    """Whether one of these numbers is odd."""
    return any([fall % 2 != 0 for fall in falls])


def _hops_for(falls):
    """How many hops and backs let S fall by these numbers, if they are even: each one by two."""
    return sum([abs(fall) for fall in falls]) // 2


def whole_plan(stand, other):
    """A PLAN without cuts, with as few hops and backs as can be, that leads from stand to other."""
    one, two = told_stand(stand), told_stand(other)
    if fewest_hops(one, two) > 10:
        raise TooMany()
    rounds = ()
    for number, fall in enumerate(_falls(one, two)):
        if fall != 0:
            rounds = rounds + _rounds(one, number, fall)
    return rounds + slides(behind_plan(one, rounds), two)


def _rounds(stand, number, fall):
    """The DEEDS by which S of BAND number falls by so much; CanNot() if it has no ROOM for them."""
    hand = 1 if fall > 0 else -1
    free = [room for room in rooms(stand, number) if room[2] == hand]
    if not free:
        raise CanNot()
    # Behind a round plan all CORDS are as before, and the ROOM is free again.
    return _round_deeds(stand, number, free[0]) * (abs(fall) // 2)


def is_whole_plan(stand, other, thing):
    """Whether thing is a PLAN without cuts, with as few hops and backs as can be, that leads from stand to other."""
    one, two = told_stand(stand), told_stand(other)
    fewest = _hops_for(_falls(one, two))
    # Where an S differs oddly only a PLAN with cuts leads there.
    return end_of(one, thing) == two and not has_cuts(thing) and len(hops_of(thing)) == fewest
