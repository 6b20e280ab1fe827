"""Hops and backs: which can be done, over which strand, with which sign."""

from fourlooks.deeds import Ground, changed, check_places, doable, named, strand_below, told_deed, told_stand
from fourlooks.errors import Unfit
from fourlooks.rows import lifted
from fourlooks.strokes import determinant


def hops(stand, number):
    """The list, ascending, of the hops and backs of BAND number that can be done."""
    return doable(stand, number, "back") + doable(stand, number, "hop")


def hop_sign(stand, deed):
    """The sign of a hop or back."""
    ground, own = _hop_ground(stand, deed)
    return sign_over(ground, own)


def hop_below(stand, deed):
    """The numbers of the BAND and of its stroke that comes to the POINT over which a hop or back goes."""
    ground, own = _hop_ground(stand, deed)
    return strand_below(ground, own)


def _hop_ground(stand, deed):
    """The ground of stand and the DEED in a tuple, if it is a hop or back that can be done there."""
    ground, own = Ground(told_stand(stand)), told_deed(deed)
    check_places(ground.bands, own)
    if own[0] not in ("hop", "back"):
        raise Unfit()
    changed(ground, own)
    return ground, own


def sign_over(ground, deed):
    """The sign of a hop or back that can be done."""
    number, place = strand_below(ground, deed)
    stroke, side = lifted(deed, named(ground, deed))
    sign = -determinant(stroke, side, ground.bands[number][0][1][place])
    return sign if deed[0] == "hop" else -sign
