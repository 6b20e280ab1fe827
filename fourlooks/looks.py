"""LOOKS: whether they are clean, and which strokes they see cross, with which signs."""

from fourlooks.cords import boxes, told_cord, told_yard
from fourlooks.errors import NotClean
from fourlooks.strokes import determinant, is_point, spans, way


def is_look(thing):
    """Whether thing is a LOOK."""
    return is_point(thing) and 0 not in thing


def octant_of(look):
    """The OCTANT of the signs of look."""
    return tuple([way(number) for number in look])


def is_clean(yard, look):
    """Whether look is clean for yard."""
    told = told_yard(yard)
    try:
        _all_crossings(told, look)
    except NotClean:
        return False
    return True


def crossings(cord, look):
    """The list, ascending, of (i, j, sign) for strokes i and j of cord, i below j, that look sees cross."""
    found = _all_crossings((told_cord(cord),), look)
    return sorted([(one[1], two[1], sign) for one, two, sign in found])


def crossings_between(cord, other, look):
    """The list, ascending, of (i, j, sign) for stroke i of cord and j of other that look sees cross."""
    found = _all_crossings(told_yard((cord, other)), look)
    return sorted([(one[1], two[1], sign) for one, two, sign in found if one[0] != two[0]])


def seen(cord, look):
    """The signs of the CROSSINGS of cord by look, added up."""
    return _signs(crossings(cord, look))


def seen_between(cord, other, look):
    """The signs of the CROSSINGS between two CORDS by look, added up."""
    return _signs(crossings_between(cord, other, look))


def _signs(found):
    """The signs of these CROSSINGS, added up."""
    return sum([sign for one, two, sign in found])


def clean_look(yard, octant):
    """A LOOK of octant that is clean for yard."""
    corners = [corner for cord in told_yard(yard) for corner in boxes(cord)]
    wide = max([max(row) - min(row) for row in zip(*corners)])
    # Three numbers behind one another, the first one odd, have no common divisors two by two.
    first = wide + 1 + wide % 2
    return tuple([sign * (first + more) for more, sign in enumerate(octant)])


def _all_crossings(yard, look):
    """The list of (stroke, stroke, sign) for all CROSSINGS in yard, a stroke being told by the pair of the
    number of its CORD and its own; NotClean() if look is not clean for yard."""
    rows = [((number, place), stroke, low)
            for number, cord in enumerate(yard) for place, (stroke, low) in enumerate(spans(cord))]
    found = []
    for at, (two, partner, height) in enumerate(rows):
        for one, stroke, low in rows[:at]:
            sign = _sign_seen(stroke, low, partner, height, look)
            if sign != 0:
                found.append((one, two, sign))
    return found


def _sign_seen(stroke, low, partner, height, look):
    """The sign with which look sees two strokes cross, each told with its end of the lesser numbers; 0 if it
    does not see them cross; NotClean() if it sees an end of one of them on the other one."""
    one, two = abs(stroke) - 1, abs(partner) - 1
    # Where strokes of one axis are seen along one another, a CORNER of the one strand or of the other is, too:
    # its other stroke, with an end there, tells that look is not clean.
    if one == two:
        return 0
    third = 3 - one - two
    apart, wide = low[third] - height[third], look[third]
    # Alike there, they are seen to meet only where they do: in one place, not in two.
    if apart == 0:
        return 0
    # Where look sees them meet: so many parts of wide beyond the lesser end of the one, and of the other.
    on_one = apart * look[one] - (low[one] - height[one]) * wide
    on_two = (low[two] - height[two]) * wide - apart * look[two]
    if wide < 0:
        on_one, on_two, wide = -on_one, -on_two, -wide
    if not (0 <= on_one <= wide and 0 <= on_two <= wide):
        return 0
    if on_one in (0, wide) or on_two in (0, wide):
        raise NotClean()
    return determinant(stroke, partner, third + 1 if apart > 0 else -third - 1)
