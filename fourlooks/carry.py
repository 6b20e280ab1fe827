"""SIDES on their way: carried plainly from stroke to stroke, turned by quarters, come home."""

from fourlooks.strokes import upright_to


def carried_on(side, stroke, other):
    """The SIDE of stroke carried plainly to other, which is not its contrary."""
    if side == other:
        return -stroke
    if side == -other:
        return stroke
    return side


def quarters_on(side, stroke, number):
    """The SIDE of stroke turned by so many quarters about it."""
    # Four quarters lead back: some the other way about are some this way.
    for _ in range(number % 4):
        side = upright_to(stroke, side)
    return side


def come_home(strokes):
    """By how many quarters, from 0 to 3, a SIDE of stroke 0 comes home turned, carried plainly round a CORD."""
    first = strokes[0]
    begin = abs(first) % 3 + 1
    side = begin
    for stroke, behind in zip(strokes, strokes[1:] + strokes[:1]):
        side = carried_on(side, stroke, behind)
    return [quarters_on(begin, first, number) for number in range(4)].index(side)
