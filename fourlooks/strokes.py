"""Numbers, POINTS and STROKES, one by one and in rows."""

STROKES = (-3, -2, -1, 1, 2, 3)
STEPS = {1: (1, 0, 0), 2: (0, 1, 0), 3: (0, 0, 1), -1: (-1, 0, 0), -2: (0, -1, 0), -3: (0, 0, -1)}


def is_number(value):
    """Whether value is a number; True and False are none."""
    return isinstance(value, int) and not isinstance(value, bool)


def is_point(value):
    """Whether value is a POINT."""
    return isinstance(value, tuple) and len(value) == 3 and all([is_number(part) for part in value])


def is_stroke(value):
    """Whether value is a STROKE."""
    return is_number(value) and value in STROKES


def way(stroke):
    """1 for a STROKE that goes on along its axis, -1 for one that goes back."""
    return 1 if stroke > 0 else -1


def are_unlike(stroke, other):
    """Whether two STROKES are of unlike axes."""
    return abs(stroke) != abs(other)


def determinant(first, second, third):
    """[first, second, third] of three STROKES."""
    one, two, three = abs(first), abs(second), abs(third)
    # Of 1, 2, 3 in any order this product is 2 or -2, by their order; 0 if two are alike.
    order = (one - two) * (two - three) * (three - one) // 2
    return order * way(first) * way(second) * way(third)


def upright_to(stroke, other):
    """stroke x other, for two STROKES of unlike axes."""
    axis = 6 - abs(stroke) - abs(other)
    return axis * determinant(stroke, other, axis)


def stepped(point, stroke):
    """The POINT one STROKE on from point."""
    x, y, z = point
    along, across, up = STEPS[stroke]
    return (x + along, y + across, z + up)


def walked(start, strokes):
    """The list of start and of the POINTS to which one comes from there, stroke by stroke."""
    spots = [start]
    for stroke in strokes:
        spots.append(stepped(spots[-1], stroke))
    return spots


def spans(cord):
    """The list of the strokes of cord, each with that end of it that has the lesser numbers."""
    start, strokes = cord
    spots = walked(start, strokes)
    return [(stroke, min(begin, end)) for stroke, begin, end in zip(strokes, spots, spots[1:])]


def gone_back(strokes):
    """The same strokes of space, gone the other way from the last to the first one."""
    return tuple([-stroke for stroke in strokes[::-1]])


def bent_places(strokes):
    """The numbers of the POINTS at which a row of strokes that closes is bent."""
    # Stroke -1 is the last one: it stands ahead of stroke 0.
    return tuple([k for k in range(len(strokes)) if are_unlike(strokes[k - 1], strokes[k])])
