"""What DEEDS change: QUARTERS, S and LINKS."""

from fourlooks.deeds import Ground, changed, check_places, plain_change, strand_below, told_deed, told_stand
from fourlooks.hops import sign_over


def quarters_change(stand, deed):
    """By how much QUARTERS of the CORD grow whose BAND does deed."""
    return effects(told_stand(stand), told_deed(deed))[0]


def whole_change(stand, deed):
    """By how much S of the BAND grows that does deed."""
    return effects(told_stand(stand), told_deed(deed))[1]


def links_changed(stand, deed):
    """The set of (number, change) for each BAND whose CORD's LINK with the one of deed changes."""
    return effects(told_stand(stand), told_deed(deed))[2]


def effects(stand, deed):
    """By how much QUARTERS and S of its BAND grow with deed, and the set of the LINKS that change; raises what
    done raises. Both are told in tuples."""
    check_places(stand, deed)
    word, number = deed[0], deed[1]
    if word == "cut":
        return (0, deed[2], ())
    if word in ("slide", "begin"):
        return (0, 0, ())
    ground = Ground(stand)
    change = plain_change(stand[number][0][1], deed, changed(ground, deed))
    if word not in ("hop", "back"):
        return (change, 0, ())
    sign, below = sign_over(ground, deed), strand_below(ground, deed)[0]
    if below == number:
        return (change + 8 * sign, 2 * sign, ())
    return (change, 0, ((below, sign),))
