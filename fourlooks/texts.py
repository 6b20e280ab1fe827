"""Texts: the names of strokes and DEEDS, and the lines of YARDS, STANDS and PLANS."""

from fourlooks.cords import is_yard, told_yard
from fourlooks.deeds import SIDED_WORDS, is_deed, is_stand, told_deed, told_stand
from fourlooks.errors import BadLine, Unfit
from fourlooks.plans import told_plan

LETTERS = {1: "x", 2: "y", 3: "z", -1: "X", -2: "Y", -3: "Z"}
LETTERS_READ = {"x": 1, "y": 2, "z": 3, "X": -1, "Y": -2, "Z": -3}
# The name of what has nothing in it.
NOTHING = "-"


def strokes_name(strokes):
    """The name of a tuple of STROKES."""
    return "".join([LETTERS[stroke] for stroke in strokes]) or NOTHING


def deed_name(deed):
    """The name of a DEED."""
    told = told_deed(deed)
    words = [told[0]] + [str(number) for number in told[1:]]
    if told[0] in SIDED_WORDS:
        words[-1] = LETTERS[told[3]]
    return " ".join(words)


def _numbers_name(numbers, sign):
    """The numbers in figures, with sign between."""
    return sign.join([str(number) for number in numbers])


def yard_text(yard):
    """The text of a YARD."""
    return _text([["cord"] + _cord_names(cord) for cord in told_yard(yard)])


def stand_text(stand):
    """The text of a STAND."""
    return _text([["band"] + _cord_names(cord) + [_numbers_name(turns, ",")] for cord, turns in told_stand(stand)])


def plan_text(plan):
    """The text of a tuple of DEEDS."""
    return _text([[deed_name(deed)] for deed in told_plan(plan)])


def _cord_names(cord):
    """The names of the start and of the strokes of a CORD."""
    return [_numbers_name(cord[0], "."), strokes_name(cord[1])]


def _text(lines):
    """The text of these lines of words, each with a line break behind it."""
    return "".join([" ".join(words) + "\n" for words in lines])


def strokes_read(word):
    """The tuple of STROKES with this name; None if there is none."""
    if word == NOTHING:
        return ()
    strokes = tuple([LETTERS_READ.get(letter, 0) for letter in word])
    return None if 0 in strokes or strokes == () else strokes


def deed_read(word):
    """The DEED with this name; None if there is none."""
    words = word.split(" ")
    parts = [words[0]] + [_number_read(part) for part in words[1:]]
    if words[0] in SIDED_WORDS:
        parts[-1] = LETTERS_READ.get(words[-1], 0)
    deed = tuple(parts)
    return deed if is_deed(deed) else None


def _number_read(word):
    """The number that is written so; None if there is none."""
    figures = word[1:] if word.startswith("-") else word
    if not figures.isdecimal():
        return None
    number = int(word)
    # No needless 0, and none below 0.
    return number if str(number) == word else None


def _numbers_read(word, sign):
    """The tuple of the numbers that are written so, with sign between; None if they are not."""
    numbers = tuple([_number_read(part) for part in word.split(sign)])
    return None if None in numbers else numbers


def _turns_read(word):
    """The tuple of numbers with this name; None if there is none."""
    return () if word == NOTHING else _numbers_read(word, ",")


def _point_read(word):
    """The POINT with this name; None if there is none."""
    numbers = _numbers_read(word, ".")
    return numbers if numbers is not None and len(numbers) == 3 else None


def _cord_read(line):
    """The pair of a POINT and STROKES that is told in a line of a YARD; None if there is none."""
    words = line.split(" ")
    if len(words) != 3 or words[0] != "cord":
        return None
    return _whole_pair(_point_read(words[1]), strokes_read(words[2]))


def _band_read(line):
    """The pair of such a pair and numbers that is told in a line of a STAND; None if there is none."""
    words = line.split(" ")
    if len(words) != 4 or words[0] != "band":
        return None
    return _whole_pair(_whole_pair(_point_read(words[1]), strokes_read(words[2])), _turns_read(words[3]))


def _whole_pair(one, two):
    """The pair of both; None if one of them is None."""
    return None if one is None or two is None else (one, two)


def read_yard(text):
    """The YARD with this text."""
    told = _all_read(text, _cord_read)
    if not is_yard(told):
        raise Unfit()
    return told


def read_stand(text):
    """The STAND with this text."""
    told = _all_read(text, _band_read)
    if not is_stand(told):
        raise Unfit()
    return told


def read_plan(text):
    """The tuple of DEEDS with this text."""
    return _all_read(text, deed_read)


def _all_read(text, read):
    """The tuple of what read tells of each line; BadLine(..) for the first line of which it tells None."""
    found = []
    for number, line in enumerate(_lines(text)):
        told = read(line)
        if told is None:
            raise BadLine(number)
        found.append(told)
    return tuple(found)


def _lines(text):
    """The lines of a text; one line break at its end begins no further one."""
    lines = text.split("\n")
    return lines[:-1] if lines[-1] == "" else lines
