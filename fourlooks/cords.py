"""CORDS: what they are, what is told of them, and their shapes."""

from fourlooks.errors import NoPlace, TooMany, Unfit
from fourlooks.strokes import STROKES, bent_places, gone_back, is_number, is_point, is_stroke, walked

ORIGIN = (0, 0, 0)
# What a STROKE adds to a place that is told by one number: no row of 8 strokes comes 50 off its start.
PLACE_STEPS = {1: 1, 2: 100, 3: 10000, -1: -1, -2: -100, -3: -10000}


def is_cord(thing):
    """Whether thing is a CORD."""
    if not (isinstance(thing, tuple) and len(thing) == 2):
        return False
    start, strokes = thing
    return is_point(start) and _are_strokes(strokes) and _closes(start, strokes)


def _are_strokes(value):
    """Whether value is a tuple of as many STROKES as a CORD has at the least."""
    return isinstance(value, tuple) and len(value) >= 4 and all([is_stroke(part) for part in value])


def _closes(start, strokes):
    """Whether the strokes lead back to start, and to no POINT twice on the way."""
    spots = walked(start, strokes)
    return spots[-1] == start and len(set(spots)) == len(strokes)


def is_yard(thing):
    """Whether thing is a YARD."""
    if not (isinstance(thing, tuple) and len(thing) > 0 and all([is_cord(part) for part in thing])):
        return False
    return are_apart(thing)


def are_apart(cords):
    """Whether no two of the CORDS have a common POINT."""
    spots = [spot for start, strokes in cords for spot in walked(start, strokes)[1:]]
    return len(set(spots)) == len(spots)


def told_cord(cord):
    """The CORD in tuples, whether it was handed in by tuples or by lists; Unfit() if it is none."""
    if not (isinstance(cord, (list, tuple)) and len(cord) == 2):
        raise Unfit()
    start, strokes = cord
    if not (isinstance(start, (list, tuple)) and isinstance(strokes, (list, tuple))):
        raise Unfit()
    told = (tuple(start), tuple(strokes))
    if not is_cord(told):
        raise Unfit()
    return told


def told_yard(yard):
    """The YARD in tuples, whether it was handed in by tuples or by lists; Unfit() if it is none."""
    if not (isinstance(yard, (list, tuple)) and len(yard) > 0):
        raise Unfit()
    told = tuple([told_cord(cord) for cord in yard])
    if not are_apart(told):
        raise Unfit()
    return told


def points(cord):
    """The tuple of the POINTS of cord, by number."""
    start, strokes = told_cord(cord)
    return tuple(walked(start, strokes)[:-1])


def corners(cord):
    """The set of the numbers of the CORNERS of cord."""
    return bent_places(told_cord(cord)[1])


def boxes(cord):
    """The pair of the least and of the greatest numbers of the POINTS, axis by axis."""
    spots = points(cord)
    axes = range(3)
    least = tuple([min([spot[at] for spot in spots]) for at in axes])
    greatest = tuple([max([spot[at] for spot in spots]) for at in axes])
    return (least, greatest)


def begun(cord, place):
    """The CORD told from POINT place on, round its end."""
    start, strokes = told_cord(cord)
    check_place(place, strokes)
    return (walked(start, strokes)[place], strokes[place:] + strokes[:place])


def check_place(place, strokes):
    """NoPlace(place) if place is the number of none of the strokes."""
    if not (is_number(place) and 0 <= place < len(strokes)):
        raise NoPlace(place)


def turned_back(cord):
    """The CORD with the same start that goes the other way round."""
    start, strokes = told_cord(cord)
    return (start, gone_back(strokes))


def least_form(cord):
    """The least one of all CORDS that start at (0, 0, 0) and have the shape of cord."""
    return (ORIGIN, _least_row(told_cord(cord)[1]))


def _least_row(strokes):
    """The least row by which the closed row of strokes is told, begun anywhere, gone either way."""
    return min(_begun_anywhere(strokes) + _begun_anywhere(gone_back(strokes)))


def _begun_anywhere(strokes):
    """The list of the closed row of strokes, begun at each of them."""
    return [strokes[k:] + strokes[:k] for k in range(len(strokes))]


def alike(cord, other):
    """Whether two CORDS have one shape."""
    return least_form(cord) == least_form(other)


def all_cords(many):
    """The list, ascending, of the least forms of all CORDS of so many strokes: 4, 6 or 8."""
    if many > 8:
        raise TooMany()
    if many not in (4, 6, 8):
        raise Unfit()
    return [(ORIGIN, row) for row in _closed_rows(many) if row == _least_row(row)]


def _closed_rows(many):
    """The list, ascending, of rows of so many strokes that make a CORD: each least row is among them."""
    # A trail is a row, the places that it came to, and how many strokes of it stand ahead of its longest
    # end that repeats its begin. A least row begins with a stroke below 0: each CORD has some.
    trails = [((stroke,), (0, PLACE_STEPS[stroke]), 1) for stroke in STROKES if stroke < 0]
    for left in range(many - 2, -1, -1):
        trails = [longer for trail in trails for longer in _gone_on(trail, left)]
    return [trail[0] for trail in trails]


def _gone_on(trail, left):
    """The list, ascending, of the trails one stroke longer, so many being left to come back to the start."""
    row, spots, ahead = trail
    # Whatever follows, the CORD gone the other way round has a lesser row.
    if gone_back(row) < row:
        return []
    # With a lesser stroke the end that repeats the begin would go on below it: begun there the row is less.
    least = row[-ahead]
    found = []
    for stroke in _ways_home(row, left):
        spot = spots[-1] + PLACE_STEPS[stroke]
        if stroke >= least and (left == 0 or spot not in spots):
            found.append((row + (stroke,), spots + (spot,), ahead if stroke == least else len(row) + 1))
    return found


def _ways_home(row, left):
    """The STROKES, ascending, by which the row can go on to come back to its start with so many more."""
    away = sum([abs(row.count(axis) - row.count(-axis)) for axis in (1, 2, 3)])
    if away < left:
        return STROKES
    return [stroke for stroke in STROKES if row.count(stroke) < row.count(-stroke)]
