"""SQUARES and SKINS: what rim they have, and how often CORDS go through them."""

from fourlooks.cords import boxes, told_cord
from fourlooks.strokes import is_number, is_point, spans, stepped, way


def is_square(thing):
    """Whether thing is a SQUARE."""
    if not (isinstance(thing, tuple) and len(thing) == 2):
        return False
    point, axis = thing
    return is_point(point) and is_number(axis) and axis in (1, 2, 3)


def rim(skin):
    """The set of (point, axis, number): how often, on less back, the rim of skin goes along this stroke."""
    gone = [(line, sign * number) for square, number in _told_pairs(skin) for line, sign in _rim_of(square)]
    return tuple([(point, axis, number) for (point, axis), number in _summed(gone)])


def _rim_of(square):
    """The list of ((point, axis), sign) of the four strokes along which the rim of a SQUARE goes."""
    point, axis = square
    one, two = axis % 3 + 1, (axis + 1) % 3 + 1
    return [((point, one), 1), ((stepped(point, one), two), 1), ((stepped(point, two), one), -1), ((point, two), -1)]


def skin(cord):
    """A SKIN of cord: curtains from its strokes down to a floor, and what lies over that floor."""
    told = told_cord(cord)
    least = boxes(told)[0]
    return _summed([pair for stroke, low in spans(told) for pair in _hung(stroke, low, least)])


def _hung(stroke, low, least):
    """The list of (square, number): the curtain that hangs from a stroke, and the floor behind one along axis 1."""
    x, y, z = low
    _, back, floor = least
    if abs(stroke) == 2:
        return [(((x, y, height), 1), -way(stroke)) for height in range(floor, z)]
    if abs(stroke) == 3:
        # The rims of curtains that stand side by side go up and down here: a CORD closes.
        return []
    curtain = [(((x, y, height), 2), way(stroke)) for height in range(floor, z)]
    return curtain + [(((x, depth, floor), 3), -way(stroke)) for depth in range(back, y)]


def is_skin(cord, thing):
    """Whether thing is a SKIN of cord."""
    lines = [(low, abs(stroke), way(stroke)) for stroke, low in spans(told_cord(cord))]
    return _are_pairs(thing) and rim(thing) == tuple(sorted(lines))


def _are_pairs(thing):
    """Whether thing is a set of pairs of a SQUARE and a number that is not 0, no SQUARE twice."""
    if not (isinstance(thing, tuple) and all([isinstance(pair, tuple) and len(pair) == 2 for pair in thing])):
        return False
    if not all([is_square(square) and is_number(number) and number != 0 for square, number in thing]):
        return False
    return all([one[0] < two[0] for one, two in zip(thing, thing[1:])])


def met(skin, cord, octant):
    """How often cord, pushed into octant, goes through skin: by its numbers, on less back."""
    told = told_cord(cord)
    numbers = {square: number for square, number in _told_pairs(skin)}
    return sum([way(stroke) * numbers.get(_pierced(stroke, low, octant), 0) for stroke, low in spans(told)])


def _pierced(stroke, low, octant):
    """The SQUARE that a stroke crosses, moved a very little into octant."""
    corner = []
    for axis, number, sign in zip((1, 2, 3), low, octant):
        # Along its own axis its one end or the other crosses, along the others it is in the SQUARE's midst.
        corner.append(number + (sign + 1) // 2 if axis == abs(stroke) else number + (sign - 1) // 2)
    return (tuple(corner), abs(stroke))


def skins_added(skin, other):
    """The set of each SQUARE with the sum of its numbers in both, if this is not 0."""
    return _summed(_told_pairs(skin) + _told_pairs(other))


def _told_pairs(skin):
    """The list of the pairs of skin in tuples, whether they were handed in by tuples or by lists."""
    return [((tuple(point), axis), number) for (point, axis), number in skin]


def _summed(pairs):
    """The set of the pairs of each first part and the sum of the numbers beside it, if this is not 0."""
    totals = {}
    for part, number in pairs:
        totals[part] = totals.get(part, 0) + number
    return tuple(sorted([(part, total) for part, total in totals.items() if total != 0]))
