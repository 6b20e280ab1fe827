"""What DEEDS make of strokes and turns: told by the row of strokes alone that they name."""

from fourlooks.errors import Unfit
from fourlooks.strokes import are_unlike, determinant

# For each word how many strokes, from its place on, a DEED wants.
WANTED = {"bend": 2, "out": 1, "in": 3, "hop": 2, "back": 6, "slide": 2, "begin": 1, "cut": 0}


def new_strokes(deed, row):
    """What a row of strokes of a CORD becomes by deed; Unfit() if deed can not be done by them and its side."""
    word = deed[0]
    # In a CORD no stroke stands next to its contrary: those between s and -s, or b and -b, are of other axes.
    if word == "bend":
        fits, new = are_unlike(row[0], row[1]), (row[1], row[0])
    elif word == "out":
        side = deed[3]
        fits, new = are_unlike(row[0], side), (side, row[0], -side)
    elif word == "in":
        fits, new = row[2] == -row[0], (row[1],)
    elif word == "hop":
        side = deed[3]
        fits = row[0] == row[1] and are_unlike(row[0], side)
        new = (side, side) + row + (-side, -side)
    else:
        side, stroke = row[0], row[2]
        fits, new = row == (side, side, stroke, stroke, -side, -side), (stroke, stroke)
    if not fits:
        raise Unfit()
    return new


def new_turns(word, turns, change):
    """What the turns of a row become by a DEED with this word that changes QUARTERS by change."""
    if word == "out":
        return (0, turns[0] - change, 0)
    if word == "in":
        return (sum(turns) - change,)
    if word == "hop":
        return (0, 0, turns[0], turns[1] - change, 0, 0)
    if word == "back":
        return (sum(turns[:3]), sum(turns[3:]) - change)
    return (turns[0], turns[1] - change)


def row_change(row, new, ahead, behind):
    """By how much QUARTERS change if row becomes new between ahead and behind, but for what it hops over."""
    # All DEEDS tell alike: each begins with the stroke across which it carries what its row began with.
    return determinant(new[0], row[0], ahead) + determinant(new[0], row[0], behind)


def lifted(deed, row):
    """The strokes a and b of a hop or back by its row: it lifts a, a by b, or lets them down again."""
    return (row[0], deed[3]) if deed[0] == "hop" else (row[2], row[0])
