"""PUSHES: how a CORD is linked with itself, moved a little, and what its CORNERS tell of it."""

from fourlooks.cords import told_cord
from fourlooks.shadows import pushed_link
from fourlooks.strokes import bent_places, determinant, upright_to, way

# One of each two opposite OCTANTS, in the order in which FOUR tells them.
FOUR_OCTANTS = ((1, 1, 1), (1, 1, -1), (1, -1, 1), (-1, 1, 1))


def self_link(cord, octant):
    """L of octant: the LINK of cord with its PUSH into octant."""
    told = told_cord(cord)
    return pushed_link(told, told, octant)


def four(cord):
    """FOUR: L of one of each two opposite OCTANTS."""
    told = told_cord(cord)
    return tuple([pushed_link(told, told, octant) for octant in FOUR_OCTANTS])


def corner_sum(cord, octant):
    """R of octant."""
    total = 0
    for stroke, behind in _corner_strokes(cord):
        sign = _sign_along(octant, behind)
        if _sign_along(octant, stroke) == sign:
            total += sign * _sign_along(octant, upright_to(stroke, behind))
    return total


def four_by(cord, octant, number):
    """What FOUR would be, by the CORNERS alone, if L of octant were number."""
    own = corner_sum(cord, octant)
    # 4 L - R is the same for all OCTANTS: L differs by a fourth of what R differs by.
    return tuple([number + (corner_sum(cord, each) - own) // 4 for each in FOUR_OCTANTS])


def octant_change(cord, octant, axis):
    """L of octant less L of the OCTANT that differs from it in the sign of this axis alone."""
    upright = axis * octant[axis - 1]
    total = 0
    for stroke, behind in _corner_strokes(cord):
        # 2 if both strokes go with the OCTANT's signs, -2 if both go against them.
        both = _sign_along(octant, stroke) + _sign_along(octant, behind)
        total += determinant(stroke, behind, upright) * both // 2
    return total


def _corner_strokes(cord):
    """The list of the pairs of the stroke that comes to a CORNER and the one that goes on."""
    strokes = told_cord(cord)[1]
    return [(strokes[k - 1], strokes[k]) for k in bent_places(strokes)]


def _sign_along(octant, stroke):
    """The sign of octant along a stroke."""
    return octant[abs(stroke) - 1] * way(stroke)
