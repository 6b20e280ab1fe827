"""The LINK of a CORD with a PUSH, by the shadows that both throw along axis 3.

Half a unit tells the same LINK as a very small step: on its way from the one
to the other a PUSH meets no CORD, because each of its places has at least two
numbers that are not whole, while a place of a CORD has at most one. And the
shadow of the PUSH, half a unit aside, crosses that of a CORD only where the
middle of a stroke along axis 1 meets the middle of one along axis 2.
"""

from fourlooks.strokes import determinant, spans


def pushed_link(cord, other, octant):
    """The LINK of cord with the PUSH of other into octant; both CORDS are told in tuples."""
    thrown = _shadows(other)
    signs = 0
    for stroke, low in _flat_strokes(cord):
        for partner, height in thrown.get(_crossed(stroke, low, octant), ()):
            upright = 3 if 2 * low[2] > 2 * height + octant[2] else -3
            signs += determinant(stroke, partner, upright)
    return signs // 2


def _flat_strokes(cord):
    """The list of the strokes along axes 1 and 2, each with its end that has the lesser numbers."""
    return [(stroke, low) for stroke, low in spans(cord) if abs(stroke) != 3]


def _shadows(cord):
    """A dict: for each shadow of a stroke the list of the strokes that throw it, with their heights."""
    found = {}
    for stroke, low in _flat_strokes(cord):
        found.setdefault((abs(stroke), low[0], low[1]), []).append((stroke, low[2]))
    return found


def _crossed(stroke, low, octant):
    """The shadow that crosses that of the stroke, once it is pushed half a unit into octant."""
    if abs(stroke) == 1:
        return (2, low[0] + (1 - octant[0]) // 2, low[1] - (1 + octant[1]) // 2)
    return (1, low[0] - (1 + octant[0]) // 2, low[1] + (1 - octant[1]) // 2)
