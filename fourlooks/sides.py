"""SIDES of strokes: carried plainly from stroke to stroke, and turned by quarters."""

from fourlooks.bands import told_band
from fourlooks.carry import carried_on, come_home, quarters_on
from fourlooks.cords import told_cord
from fourlooks.errors import Unfit
from fourlooks.strokes import are_unlike, is_stroke


def carried(side, stroke, other):
    """The SIDE of stroke carried plainly to other."""
    _check_side(side, stroke)
    if not is_stroke(other) or other == -stroke:
        raise Unfit()
    return carried_on(side, stroke, other)


def side_turned(side, stroke, number):
    """The SIDE of stroke turned by so many quarters about it."""
    _check_side(side, stroke)
    return quarters_on(side, stroke, number)


def home(cord):
    """By how many quarters, from 0 to 3, a SIDE of stroke 0 that is carried plainly comes home turned."""
    return come_home(told_cord(cord)[1])


def sides(band, side):
    """For each stroke the pair of its SIDES at its begin and at its end, side being that of stroke 0."""
    (start, strokes), turns = told_band(band)
    _check_side(side, strokes[0])
    found = []
    begin = side
    for stroke, turn, behind in zip(strokes, turns, strokes[1:] + strokes[:1]):
        end = quarters_on(begin, stroke, turn)
        found.append((begin, end))
        begin = carried_on(end, stroke, behind)
    return tuple(found)


def _check_side(side, stroke):
    """Unfit() if side is no SIDE of stroke."""
    if not (is_stroke(side) and is_stroke(stroke) and are_unlike(side, stroke)):
        raise Unfit()
