"""PLANS: what stands behind them, the way back, what each of their DEEDS changes, and slides."""

from fourlooks.bands import whole
from fourlooks.deeds import is_deed, stand_behind, told_stand
from fourlooks.effects import effects
from fourlooks.errors import Broken, CanNot, NoBand, NoPlace, Taken, Unfit
from fourlooks.tuples import tupled

# The words of the DEEDS that undo those which change strokes.
UNDONE = {"bend": "bend", "out": "in", "in": "out", "hop": "back", "back": "hop"}


def told_plan(plan):
    """The tuple of DEEDS, whether it was handed in by tuples or by lists; Unfit() if one is none by its form."""
    told = tupled(plan, 2)
    if not _are_deeds(told):
        raise Unfit()
    return told


def _are_deeds(value):
    """Whether value is a tuple of DEEDS by their form."""
    return isinstance(value, tuple) and all([is_deed(part) for part in value])


def behind_plan(stand, plan):
    """The STAND behind plan."""
    told = told_stand(stand)
    return _behind(told, told_plan(plan))


def _behind(stand, deeds):
    """The STAND behind the DEEDS; Broken(..) if they are no PLAN."""
    for place, deed in enumerate(deeds):
        stand = _next_stand(stand, deed, place)
    return stand


def _next_stand(stand, deed, place):
    """The STAND behind deed; Broken(place) if it can not be done."""
    try:
        return stand_behind(stand, deed)
    except (NoBand, NoPlace, Unfit, Taken, CanNot):
        raise Broken(place) from None


def is_plan(stand, thing):
    """Whether thing is a PLAN of stand."""
    return end_of(told_stand(stand), thing) is not None


def end_of(stand, thing):
    """The STAND behind thing, whatever that is; None if it is no PLAN of stand, which is told in tuples."""
    if not _are_deeds(thing):
        return None
    try:
        return _behind(stand, thing)
    except Broken:
        return None


def plan_back(stand, plan):
    """A PLAN that leads back from behind plan to stand."""
    ahead = told_stand(stand)
    back = ()
    for place, deed in enumerate(told_plan(plan)):
        behind = _next_stand(ahead, deed, place)
        back = _deed_back(ahead, behind, deed) + back
        ahead = behind
    return back


def _deed_back(ahead, behind, deed):
    """The DEEDS that lead back from the STAND behind deed to the one ahead of it."""
    number = deed[1]
    undo = _undoing(ahead[number][0][1], deed)
    # An in and a back add turns up: undone, some of them stand elsewhere.
    return (undo,) + turn_slides(number, stand_behind(behind, undo)[number][1], ahead[number][1])


def _undoing(strokes, deed):
    """The DEED that undoes deed, but for where turns are, by the strokes of its CORD ahead of it."""
    word, number = deed[0], deed[1]
    if word == "cut":
        return (word, number, -deed[2])
    if word == "slide":
        return (word, number, deed[2], -deed[3])
    if word == "begin":
        return (word, number, -deed[2] % len(strokes))
    # An in and a back begin with the stroke that is the side of what undoes them.
    side = (strokes[deed[2]],) if word in ("in", "back") else ()
    return (UNDONE[word], number, deed[2]) + side


def is_plan_back(stand, plan, thing):
    """Whether thing is a PLAN that leads back from behind plan to stand."""
    told = told_stand(stand)
    return end_of(_behind(told, told_plan(plan)), thing) == told


def ledger(stand, plan):
    """For each DEED of plan by how much QUARTERS and S grow with it, in its turn."""
    ahead = told_stand(stand)
    found = []
    for place, deed in enumerate(told_plan(plan)):
        behind = _next_stand(ahead, deed, place)
        found.append(effects(ahead, deed)[:2])
        ahead = behind
    return found


def slides(stand, other):
    """A PLAN of slides alone that leads from stand to other."""
    one, two = told_stand(stand), told_stand(other)
    if not (have_same_cords(one, two) and [whole(band) for band in one] == [whole(band) for band in two]):
        raise CanNot()
    return tuple([deed for number, band in enumerate(one) for deed in turn_slides(number, band[1], two[number][1])])


def have_same_cords(stand, other):
    """Whether two STANDS have as many BANDS, number by number with equal CORDS."""
    return [cord for cord, turns in stand] == [cord for cord, turns in other]


def turn_slides(number, turns, wanted):
    """The slides of BAND number that lead from its turns to the wanted ones, which come to as much."""
    found = []
    lacking = 0
    for place in range(len(turns) - 1):
        lacking += wanted[place] - turns[place]
        if lacking != 0:
            found.append(("slide", number, place, lacking))
    return tuple(found)
