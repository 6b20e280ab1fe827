"""BANDS: CORDS with turns laid into their strokes, and S, how often their edge winds."""

from fourlooks.carry import come_home
from fourlooks.cords import begun, check_place, is_cord, told_cord, turned_back
from fourlooks.errors import Unfit
from fourlooks.quarters import quarters
from fourlooks.strokes import is_number


def is_band(thing):
    """Whether thing is a BAND."""
    if not (isinstance(thing, tuple) and len(thing) == 2):
        return False
    cord, turns = thing
    return is_cord(cord) and _are_turns(cord, turns) and _closes(cord, turns)


def _are_turns(cord, turns):
    """Whether turns is a tuple with a number for each stroke of cord."""
    return isinstance(turns, tuple) and len(turns) == len(cord[1]) and all([is_number(turn) for turn in turns])


def _closes(cord, turns):
    """Whether turns and QUARTERS add up to a multiple of four."""
    # As many quarters as QUARTERS tell a SIDE comes home turned, but for a multiple of four.
    return (sum(turns) + come_home(cord[1])) % 4 == 0


def told_band(band):
    """The BAND in tuples, whether it was handed in by tuples or by lists; Unfit() if it is none."""
    if not (isinstance(band, (list, tuple)) and len(band) == 2):
        raise Unfit()
    cord, turns = told_cord(band[0]), band[1]
    turns = _told_turns(cord, turns)
    if not _closes(cord, turns):
        raise Unfit()
    return (cord, turns)


def _told_turns(cord, turns):
    """The tuple of the turns; Unfit() if they are not a number for each stroke of cord."""
    if not isinstance(turns, (list, tuple)):
        raise Unfit()
    told = tuple(turns)
    if not _are_turns(cord, told):
        raise Unfit()
    return told


def whole(band):
    """S of band."""
    cord, turns = told_band(band)
    return (sum(turns) + quarters(cord)) // 4


def plain_band(cord, number):
    """The BAND of cord with S number in which all turns are 0 but the last one."""
    told = told_cord(cord)
    return (told, (0,) * (len(told[1]) - 1) + (4 * number - quarters(told),))


def slid(band, place, number):
    """The BAND with the turn of stroke place number more, that of the next stroke number less."""
    cord, turns = told_band(band)
    check_place(place, turns)
    check_place(place + 1, turns)
    return (cord, turns[:place] + (turns[place] + number, turns[place + 1] - number) + turns[place + 2:])


def band_begun(band, place):
    """The BAND told from POINT place on, round its end."""
    cord, turns = told_band(band)
    return (begun(cord, place), turns[place:] + turns[:place])


def band_back(band):
    """The BAND gone the other way round from the same start."""
    cord, turns = told_band(band)
    return (turned_back(cord), turns[::-1])


def same_band(band, other):
    """Whether two BANDS have one CORD, with its start, and one S."""
    one, two = told_band(band), told_band(other)
    return one[0] == two[0] and whole(one) == whole(two)


def needed(cord, turns):
    """What is to be put to the last turn, from 0 to 3, for cord and turns to become a BAND."""
    told = told_cord(cord)
    return -(sum(_told_turns(told, turns)) + come_home(told[1])) % 4
