"""JOINS: two CORDS made one beside strokes that run side by side, and one made two."""

from fourlooks.cords import check_place, points, told_cord, told_yard
from fourlooks.errors import Unfit
from fourlooks.links import link
from fourlooks.strokes import STROKES, are_unlike, determinant, is_stroke, stepped


def can_join(cord, place, other, number, side):
    """Whether two CORDS can be joined at stroke place of the one and stroke number of the other by side."""
    one, two = _told_pair(cord, place, other, number)
    return _runs_beside(_begins(one)[place], _begins(two)[number], side)


def _told_pair(cord, place, other, number):
    """The two CORDS in tuples; Unfit() if they have a common POINT, NoPlace(..) for strokes that they have not."""
    one, two = told_yard((cord, other))
    check_place(place, one[1])
    check_place(number, two[1])
    return one, two


def _begins(cord):
    """The list of the pairs of each stroke's begin and the stroke."""
    return list(zip(points(cord), cord[1]))


def _runs_beside(one, two, side):
    """Whether the second stroke begins one side on from the end of the first one and goes back beside it; both are
    told with their begins."""
    begin, stroke = one
    if not (is_stroke(side) and are_unlike(side, stroke)):
        return False
    return two == (stepped(stepped(begin, stroke), side), -stroke)


def joins(cord, other):
    """The list, ascending, of the triples (place, number, side) by which two CORDS can be joined."""
    one, two = told_yard((cord, other))
    ones, twos = _begins(one), _begins(two)
    return [(place, number, side) for place in range(len(ones)) for number in range(len(twos)) for side in STROKES
            if _runs_beside(ones[place], twos[number], side)]


def joined(cord, place, other, number, side):
    """The joined CORD."""
    one, two = _told_joint(cord, place, other, number, side)
    start, strokes = one
    along = (side,) + _between(two[1], number, number) + (-side,)
    return (start, strokes[:place] + along + strokes[place + 1:])


def _told_joint(cord, place, other, number, side):
    """The two CORDS in tuples, if they can be joined so."""
    one, two = _told_pair(cord, place, other, number)
    if not _runs_beside(_begins(one)[place], _begins(two)[number], side):
        raise Unfit()
    return one, two


def _between(strokes, ahead, behind):
    """The strokes of a CORD from behind stroke ahead on up to that ahead of stroke behind, round its end; all but
    this one if they are the same."""
    others = strokes[ahead + 1:] + strokes[:ahead]
    return others[:(behind - ahead - 1) % len(strokes)]


def join_change(cord, place, other, number, side):
    """The four determinants by which QUARTERS change where two CORDS are joined."""
    one, two = _told_joint(cord, place, other, number, side)
    beside = _neighbours(one[1], place) + _neighbours(two[1], number)
    return sum([determinant(side, one[1][place], stroke) for stroke in beside])


def _neighbours(strokes, place):
    """The strokes ahead of and behind that of place, round the end."""
    return (strokes[place - 1], strokes[(place + 1) % len(strokes)])


def can_part(cord, place, number):
    """Whether two strokes of cord can be parted."""
    told = _told_places(cord, place, number)
    return _parting(_begins(told), place, number) is not None


def _told_places(cord, place, number):
    """The CORD in tuples; NoPlace(..) for strokes that it has not."""
    told = told_cord(cord)
    check_place(place, told[1])
    check_place(number, told[1])
    return told


def _parting(begins, place, number):
    """The STROKE from the end of stroke place to the begin of stroke number; None if they can not be parted."""
    many = len(begins)
    if (number - place) % many < 4 or (place - number) % many < 4:
        return None
    found = [side for side in STROKES if _runs_beside(begins[place], begins[number], side)]
    return found[0] if found else None


def parts(cord):
    """The list, ascending, of the pairs (place, number) of strokes that can be parted."""
    begins = _begins(told_cord(cord))
    places = range(len(begins))
    return [(place, number) for place in places for number in places if _parting(begins, place, number) is not None]


def parted(cord, place, number):
    """The pair of the CORDS that come of cord, parted at these strokes."""
    told = _told_places(cord, place, number)
    side = _parting(_begins(told), place, number)
    if side is None:
        raise Unfit()
    spots, strokes = points(told), told[1]
    first = (spots[place], (side,) + _between(strokes, number, place))
    second = (spots[(place + 1) % len(spots)], _between(strokes, place, number) + (-side,))
    return (first, second)


def parted_link(cord, place, number):
    """The LINK of the two CORDS that come of cord, parted at these strokes."""
    first, second = parted(cord, place, number)
    return link(first, second)
