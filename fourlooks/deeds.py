"""STANDS, and the DEEDS that are done at them."""

from fourlooks.bands import band_begun, is_band, slid, told_band
from fourlooks.cords import are_apart, check_place
from fourlooks.errors import CanNot, NoBand, NoPlace, Taken, Unfit
from fourlooks.rows import WANTED, lifted, new_strokes, new_turns, row_change
from fourlooks.strokes import STROKES, is_number, is_stroke, stepped, walked

# The words of the DEEDS with four parts, and those of them whose last one is a side.
LONG_WORDS = ("out", "hop", "slide")
SIDED_WORDS = ("out", "hop")


class Ground:
    """A STAND with the lists of its POINTS, and which POINT of which BAND is where."""

    def __init__(self, bands):
        self.bands = bands
        self.points = [walked(start, strokes)[:-1] for (start, strokes), turns in bands]
        self.spots = {spot: (number, at) for number, row in enumerate(self.points) for at, spot in enumerate(row)}


def is_stand(thing):
    """Whether thing is a STAND."""
    if not (isinstance(thing, tuple) and len(thing) > 0 and all([is_band(part) for part in thing])):
        return False
    return are_apart([cord for cord, turns in thing])


def told_stand(stand):
    """The STAND in tuples, whether it was handed in by tuples or by lists; Unfit() if it is none."""
    if not (isinstance(stand, (list, tuple)) and len(stand) > 0):
        raise Unfit()
    told = tuple([told_band(band) for band in stand])
    if not are_apart([cord for cord, turns in told]):
        raise Unfit()
    return told


def is_deed(thing):
    """Whether thing is a DEED of some STAND, by its form alone."""
    if not (isinstance(thing, tuple) and len(thing) > 0 and isinstance(thing[0], str) and thing[0] in WANTED):
        return False
    word, numbers = thing[0], thing[1:]
    if not (len(numbers) == (3 if word in LONG_WORDS else 2) and all([is_number(part) for part in numbers])):
        return False
    return word not in SIDED_WORDS or is_stroke(thing[3])


def told_deed(deed):
    """The DEED as a tuple, whether it was handed in by a tuple or by a list; Unfit() if it is none by its form."""
    told = tuple(deed) if isinstance(deed, list) else deed
    if not is_deed(told):
        raise Unfit()
    return told


def done(stand, deed):
    """The STAND behind deed."""
    return stand_behind(told_stand(stand), told_deed(deed))


def can_do(stand, deed):
    """Whether deed can be done in stand."""
    told, own = told_stand(stand), told_deed(deed)
    try:
        stand_behind(told, own)
    except (NoBand, NoPlace, Unfit, Taken, CanNot):
        return False
    return True


def bends(stand, number):
    """The list, ascending, of the bends of BAND number that can be done."""
    return doable(stand, number, "bend")


def outs(stand, number):
    """The list, ascending, of the outs of BAND number that can be done."""
    return doable(stand, number, "out")


def ins(stand, number):
    """The list, ascending, of the ins of BAND number that can be done."""
    return doable(stand, number, "in")


def doable(stand, number, word):
    """The list, ascending, of the DEEDS of BAND number with this word, which names no many, that can be done."""
    told = told_stand(stand)
    check_band(told, number)
    ground = Ground(told)
    ends = [(side,) for side in STROKES] if word in SIDED_WORDS else [()]
    deeds = [(word, number, place) + end for place in range(len(told[number][1])) for end in ends]
    return [deed for deed in deeds if _is_doable(ground, deed)]


def _is_doable(ground, deed):
    """Whether a DEED that changes strokes can be done."""
    try:
        check_places(ground.bands, deed)
        changed(ground, deed)
    except (NoPlace, Unfit, Taken, CanNot):
        return False
    return True


def check_band(stand, number):
    """NoBand(number) if stand has no BAND of this number."""
    if not (is_number(number) and 0 <= number < len(stand)):
        raise NoBand(number)


def check_places(stand, deed):
    """NoBand(..) or NoPlace(..) if stand has not the BAND that deed names, or that not the places it wants."""
    check_band(stand, deed[1])
    for place in range(deed[2], deed[2] + WANTED[deed[0]]):
        check_place(place, stand[deed[1]][1])


def stand_behind(stand, deed):
    """The STAND behind deed, both told in tuples."""
    check_places(stand, deed)
    word, number = deed[0], deed[1]
    band = stand[number]
    if word == "slide":
        new = slid(band, deed[2], deed[3])
    elif word == "begin":
        new = band_begun(band, deed[2])
    elif word == "cut":
        new = (band[0], (band[1][0] + 4 * deed[2],) + band[1][1:])
    else:
        new = _band_changed(band, deed, changed(Ground(stand), deed))
    return stand[:number] + (new,) + stand[number + 1:]


def _band_changed(band, deed, new):
    """The BAND behind a DEED that makes new of the strokes it names."""
    (start, strokes), turns = band
    place, end = deed[2], deed[2] + WANTED[deed[0]]
    along = new_turns(deed[0], turns[place:end], plain_change(strokes, deed, new))
    return ((start, strokes[:place] + new + strokes[end:]), turns[:place] + along + turns[end:])


def plain_change(strokes, deed, new):
    """By how much QUARTERS change, but for what is hopped over, by a DEED that makes new of what it names."""
    place, end = deed[2], deed[2] + WANTED[deed[0]]
    return row_change(strokes[place:end], new, strokes[place - 1], strokes[end % len(strokes)])


def changed(ground, deed):
    """What the strokes that deed names become; Unfit(), Taken(..) or CanNot() if that can not be."""
    word, number, place = deed[0], deed[1], deed[2]
    row = named(ground, deed)
    new = new_strokes(deed, row)
    taken = [spot for spot in walked(ground.points[number][place], new)[1:-1] if spot in ground.spots]
    if taken:
        raise Taken(min(taken))
    if word == "in" and len(ground.points[number]) <= 4:
        raise CanNot()
    if word in ("hop", "back") and strand_below(ground, deed) is None:
        raise CanNot()
    return new


def named(ground, deed):
    """The strokes that deed names."""
    return ground.bands[deed[1]][0][1][deed[2]:deed[2] + WANTED[deed[0]]]


def strand_below(ground, deed):
    """The numbers of the BAND and of its stroke by which a strand comes to the POINT m over which a hop or back
    goes whose new POINTS are free; None if m is free."""
    stroke, side = lifted(deed, named(ground, deed))
    middle = stepped(stepped(ground.points[deed[1]][deed[2]], stroke), side)
    if middle not in ground.spots:
        return None
    # Of the six POINTS beside m four are those of the hop's own or free ones: a strand that comes to m by one
    # of the other two goes straight on to the other, square to what is lifted and to its side.
    number, at = ground.spots[middle]
    return (number, (at - 1) % len(ground.points[number]))
