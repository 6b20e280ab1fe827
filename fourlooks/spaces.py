"""TURNS of space: they lead axes to axes, and so CORDS to CORDS and BANDS to BANDS."""

from fourlooks.bands import told_band
from fourlooks.cords import told_cord
from fourlooks.strokes import STROKES, determinant, is_stroke, way


def is_turn(thing):
    """Whether thing is a TURN."""
    if not (isinstance(thing, tuple) and len(thing) == 3 and all([is_stroke(part) for part in thing])):
        return False
    return determinant(thing[0], thing[1], thing[2]) != 0


def all_turns():
    """The list, ascending, of all TURNS."""
    rows = [(one, two, three) for one in STROKES for two in STROKES for three in STROKES]
    return [row for row in rows if is_turn(row)]


def is_mirror(turn):
    """Whether turn is a mirror."""
    return determinant(turn[0], turn[1], turn[2]) == -1


def turned(cord, turn):
    """The CORD with its start and its strokes turned."""
    start, strokes = told_cord(cord)
    return (turned_point(start, turn), tuple([turned_stroke(stroke, turn) for stroke in strokes]))


def turned_stroke(stroke, turn):
    """The STROKE to which turn leads this one."""
    return way(stroke) * turn[abs(stroke) - 1]


def turned_point(point, turn):
    """The POINT to which turn leads this one."""
    numbers = [0, 0, 0]
    for number, stroke in zip(point, turn):
        numbers[abs(stroke) - 1] = way(stroke) * number
    return tuple(numbers)


def shifted(cord, point):
    """The CORD with the numbers of point added to those of its start."""
    start, strokes = told_cord(cord)
    return (tuple([one + two for one, two in zip(start, point)]), strokes)


def turned_band(band, turn):
    """The BAND of the turned CORD; a mirror makes of each turn its contrary."""
    cord, turns = told_band(band)
    hand = -1 if is_mirror(turn) else 1
    return (turned(cord, turn), tuple([hand * own for own in turns]))


def put_together(turn, other):
    """The TURN that does what turn does, then what other does."""
    return tuple([turned_stroke(stroke, other) for stroke in turn])


def turn_back(turn):
    """The TURN that undoes turn."""
    # The numbers of this POINT are the axes: behind turn they stand where turn leads each axis.
    return turned_point((1, 2, 3), turn)
