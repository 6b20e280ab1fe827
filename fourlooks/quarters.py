"""QUARTERS of a CORD, and how bends and bumps change them."""

from fourlooks.errors import Unfit
from fourlooks.pushes import corner_sum, four
from fourlooks.strokes import STROKES, are_unlike, determinant, is_stroke


def quarters(cord):
    """QUARTERS of cord: its FOUR, added up."""
    return sum(four(cord))


def quarters_by(cord, octant, number):
    """What QUARTERS would be, by the CORNERS alone, if L of octant were number."""
    return 4 * number - corner_sum(cord, octant)


def bend_change(ahead, stroke, other, behind):
    """By how much a bend with this row changes QUARTERS."""
    if not _is_fit_bend(ahead, stroke, other, behind):
        raise Unfit()
    return -determinant(stroke, other, ahead) - determinant(stroke, other, behind)


def out_change(ahead, stroke, side, behind):
    """By how much a bump with this row changes QUARTERS."""
    if not _is_fit_bump(ahead, stroke, side, behind):
        raise Unfit()
    return determinant(side, stroke, ahead) + determinant(side, stroke, behind)


def changed_rows(number):
    """The list, ascending, of all fit rows of bends that change QUARTERS by number."""
    rows = [(a, b, c, d) for a in STROKES for b in STROKES for c in STROKES for d in STROKES]
    return [(a, b, c, d) for a, b, c, d in rows if _is_fit_bend(a, b, c, d) and bend_change(a, b, c, d) == number]


def _is_fit_bend(ahead, stroke, other, behind):
    """Whether the row is fit for a bend."""
    row, bent = (ahead, stroke, other, behind), (ahead, other, stroke, behind)
    return _are_strokes(row) and are_unlike(stroke, other) and _runs_on(row) and _runs_on(bent)


def _is_fit_bump(ahead, stroke, side, behind):
    """Whether the row is fit for a bump."""
    if not (_are_strokes((ahead, stroke, side, behind)) and are_unlike(stroke, side)):
        return False
    return _runs_on((ahead, stroke, behind)) and _runs_on((ahead, side, stroke, -side, behind))


def _are_strokes(row):
    """Whether all in the row are STROKES."""
    return all([is_stroke(each) for each in row])


def _runs_on(row):
    """Whether no STROKE of the row stands next to its contrary."""
    return all([one != -two for one, two in zip(row, row[1:])])
