"""CLAIMS, and one judge of them: whether they stand, the PAPERS against them and the REASONS for them."""

from fourlooks.bands import whole
from fourlooks.cords import is_cord, is_yard
from fourlooks.deeds import is_stand
from fourlooks.errors import Unfit
from fourlooks.links import link
from fourlooks.looks import clean_look, is_clean, is_look, octant_of, seen
from fourlooks.plans import end_of, have_same_cords, slides
from fourlooks.pushes import self_link
from fourlooks.quarters import quarters, quarters_by
from fourlooks.rooms import has_cuts, hops_of, rooms, whole_plan
from fourlooks.skins import is_skin, met, skin
from fourlooks.strokes import is_number, is_point
from fourlooks.tuples import tupled

# The PUSH by which SKINS tell LINKS; a REASON for QUARTERS or a PAPER against them may tell it, too.
PUSHED = (1, 1, 1)
# The words of the CLAIMS of STANDS: the others are of a number.
STAND_WORDS = ("still", "comes")


def is_claim(thing):
    """Whether thing is a CLAIM."""
    if not (isinstance(thing, tuple) and len(thing) > 2):
        return False
    word, told, last = thing[0], thing[1:-1], thing[-1]
    if word in STAND_WORDS:
        return len(told) == 1 and _are_alike(told[0], last) and (word == "still" or _has_all_rooms(told[0]))
    if not is_number(last):
        return False
    if word == "link":
        return len(told) == 2 and is_yard(told)
    if word == "look":
        return len(told) == 2 and is_cord(told[0]) and _is_octant(told[1])
    return word == "quarters" and len(told) == 1 and is_cord(told[0])


def _are_alike(stand, other):
    """Whether both are STANDS, with the same CORDS."""
    return is_stand(stand) and is_stand(other) and have_same_cords(stand, other)


def _has_all_rooms(stand):
    """Whether each BAND has ROOMS of both hands."""
    hands = [[room[2] for room in rooms(stand, number)] for number in range(len(stand))]
    return all([1 in own and -1 in own for own in hands])


def _is_octant(value):
    """Whether value is an OCTANT."""
    return is_point(value) and all([part in (1, -1) for part in value])


def _told_claim(claim):
    """The CLAIM in tuples, whether it was handed in by tuples or by lists; Unfit() if it is none."""
    # What stands deepest are the starts of CORDS in the BANDS of a STAND.
    told = tupled(claim, 5)
    if not is_claim(told):
        raise Unfit()
    return told


def is_so(claim):
    """Whether claim stands."""
    return _stands(_told_claim(claim))


def _stands(claim):
    """Whether a CLAIM told in tuples stands."""
    if claim[0] in STAND_WORDS:
        return _bands_against(claim) == []
    return _number_of(claim) == claim[-1]


def _number_of(claim):
    """The number that a CLAIM of a number should tell."""
    word, cord = claim[0], claim[1]
    if word == "link":
        return link(cord, claim[2])
    return self_link(cord, claim[2]) if word == "look" else quarters(cord)


def _bands_against(claim):
    """The list of the numbers of the BANDS because of which a CLAIM of STANDS does not stand."""
    apart = [whole(one) - whole(two) for one, two in zip(claim[1], claim[2])]
    if claim[0] == "comes":
        # A hop or back over its own CORD changes S by two.
        apart = [fall % 2 for fall in apart]
    return [number for number, fall in enumerate(apart) if fall != 0]


def paper_against(claim):
    """A PAPER against claim; None if it stands."""
    told = _told_claim(claim)
    if _stands(told):
        return None
    return _bands_against(told)[0] if told[0] in STAND_WORDS else _witness(told)


def _witness(claim):
    """What tells the number of which a CLAIM is: a SKIN, a LOOK, or an OCTANT with its L."""
    word, cord = claim[0], claim[1]
    if word == "link":
        return skin(cord)
    return clean_look((cord,), claim[2]) if word == "look" else (PUSHED, self_link(cord, PUSHED))


def is_paper_against(claim, thing):
    """Whether thing is a PAPER against claim."""
    told = _told_claim(claim)
    if told[0] in STAND_WORDS:
        return is_number(thing) and thing in _bands_against(told)
    number = _number_by(told, thing)
    return number is not None and number != told[-1]


def _number_by(claim, thing):
    """The number that thing tells, of which a CLAIM is; None if it tells none."""
    word, cord, last = claim[0], claim[1], claim[-2]
    if word == "link":
        return met(thing, last, PUSHED) if is_skin(cord, thing) else None
    if word == "look":
        fits = is_look(thing) and octant_of(thing) == last and is_clean((cord,), thing)
        return seen(cord, thing) if fits else None
    fits = isinstance(thing, tuple) and len(thing) == 2 and _is_octant(thing[0]) and is_number(thing[1])
    return quarters_by(cord, thing[0], thing[1]) if fits and self_link(cord, thing[0]) == thing[1] else None


def reason_for(claim):
    """A REASON for claim; None if it does not stand."""
    told = _told_claim(claim)
    if not _stands(told):
        return None
    if told[0] == "still":
        return slides(told[1], told[2])
    return whole_plan(told[1], told[2]) if told[0] == "comes" else _witness(told)


def is_reason_for(claim, thing):
    """Whether thing is a REASON for claim."""
    told = _told_claim(claim)
    if told[0] not in STAND_WORDS:
        return _number_by(told, thing) == told[-1]
    if end_of(told[1], thing) != told[2] or has_cuts(thing):
        return False
    return told[0] == "comes" or hops_of(thing) == []


def first_fallen(claims):
    """The number of the first one of the claims that does not stand; None if all stand."""
    if not isinstance(claims, (list, tuple)):
        raise Unfit()
    told = [_told_claim(claim) for claim in claims]
    for number, claim in enumerate(told):
        if not _stands(claim):
            return number
    return None
