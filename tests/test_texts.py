"""[21]: texts.py."""

import random
import re
import unittest

import lab
import model
import walks
from fourlooks.cords import is_yard
from fourlooks.deeds import is_stand
from fourlooks.texts import (deed_name, deed_read, plan_text, read_plan, read_stand, read_yard, stand_text, strokes_name,
                             strokes_read, yard_text)

FAR = 10 ** 6
GREAT = int("9" * 1000)
# The lines as section 20 tells them.
NUMBER = r"(?:0|-?[1-9][0-9]*)"
START, STROKES, TURNS = rf"{NUMBER}\.{NUMBER}\.{NUMBER}", r"(?:[xyzXYZ]+|-)", rf"(?:{NUMBER}(?:,{NUMBER})*|-)"
CORD_LINE = re.compile(rf"cord ({START}) ({STROKES})")
BAND_LINE = re.compile(rf"band ({START}) ({STROKES}) ({TURNS})")
DEED_LINE = re.compile(rf"(bend|in|back|begin|cut) {NUMBER} {NUMBER}|slide {NUMBER} {NUMBER} {NUMBER}"
                       rf"|(out|hop) {NUMBER} {NUMBER} [xyzXYZ]")
LETTERS = dict(zip("xyzXYZ", (1, 2, 3, -1, -2, -3)))
SIGNS = "\n -,.0123459xyzXYZabcdhmnopsu~!_+"


def lines_of(text):
    """The lines; a line break at the end begins no further one."""
    lines = text.split("\n")
    return lines[:-1] if text.endswith("\n") or not text else lines


def told_strokes(word):
    return () if word == "-" else tuple(LETTERS[letter] for letter in word)


def told_numbers(word, sign):
    return () if word == "-" else tuple(map(int, word.split(sign)))


def told_cord(line):
    found = CORD_LINE.fullmatch(line)
    return found and (told_numbers(found[1], "."), told_strokes(found[2]))


def told_band(line):
    found = BAND_LINE.fullmatch(line)
    return found and ((told_numbers(found[1], "."), told_strokes(found[2])), told_numbers(found[3], ","))


def told_deed(line):
    if not DEED_LINE.fullmatch(line):
        return None
    word, *rest = line.split(" ")
    return (word,) + tuple(LETTERS[part] if part in LETTERS else int(part) for part in rest)


def told_by(text, line_of, is_one):
    """What a reader should tell, or the error that it should raise."""
    found = []
    for number, line in enumerate(lines_of(text)):
        told = line_of(line)
        if told is None:
            return ("BadLine", number)
        found.append(told)
    return tuple(found) if is_one(tuple(found)) else ("Unfit",)


def told(function, text):
    """What a reader tells, or the error that it raises."""
    error = walks.told_error(function, text)
    return error or function(text)


READERS = ((read_yard, told_cord, is_yard), (read_stand, told_band, is_stand), (read_plan, told_deed, lambda _: True))
DEEDS = (("bend", 0, 0), ("out", 0, 1, -3), ("in", 3, 12), ("hop", 0, 3, -3), ("hop", 1, 0, 1), ("back", 0, 7),
         ("slide", 0, 2, -1), ("slide", -1, -2, 30), ("begin", 1, 0), ("cut", 0, -FAR), ("cut", FAR, 0), ("out", 0, 0, 2),
         ("out", -4, 10, -2), ("hop", 0, 10 ** 6, -1), ("out", 2, 2, 3))


def all_yards():
    return model.yards() + tuple((cord,) for cord in lab.great_cords())


class Names(unittest.TestCase):
    def test_of_strokes(self):
        for cord in lab.all_kinds():
            name = strokes_name(cord[1])
            self.assertEqual(name, "".join("?xyzZYX"[stroke] for stroke in cord[1]))
            self.assertEqual(strokes_read(name), cord[1])
        self.assertEqual(strokes_name((1, 2, 3, -1, -2, -3)), "xyzXYZ")
        self.assertEqual((strokes_name(()), strokes_name([])), ("-", "-"))
        # A row that is no CORD has a name, too.
        self.assertEqual((strokes_name((1, -1, 1, 1)), strokes_name((3,))), ("xXxx", "z"))

    def test_of_deeds(self):
        names = ("bend 0 0", "out 0 1 Z", "in 3 12", "hop 0 3 Z", "hop 1 0 x", "back 0 7", "slide 0 2 -1", "slide -1 -2 30",
                 "begin 1 0", "cut 0 -1000000", "cut 1000000 0", "out 0 0 y", "out -4 10 Y", "hop 0 1000000 X", "out 2 2 z")
        for deed, name in zip(DEEDS, names):
            self.assertEqual(deed_name(deed), name)
            self.assertEqual(deed_name(list(deed)), name)
            self.assertEqual(deed_read(name), deed)
        for _, plan, _ in walks.plans():
            for deed in plan:
                self.assertEqual(deed_name(deed), " ".join("?xyzZYX"[part] if at == 3 and deed[0] != "slide" else str(part)
                                                           for at, part in enumerate(deed)))

    def test_what_is_no_name_of_strokes(self):
        for word in ("", " ", "xw", "x y", "xy ", " xy", "x-", "-x", "--", "xy\n", "\n", "x\ny", "0", "1", "x1", "w", "XYZ.",
                     "x,y", "a", "~", "!", "xyxY-"):
            self.assertIsNone(strokes_read(word), repr(word))
        self.assertEqual(strokes_read("-"), ())
        for code in range(32, 127):
            told = strokes_read("x" + chr(code))
            self.assertEqual(told, (1, LETTERS[chr(code)]) if chr(code) in LETTERS else None)

    def test_what_is_no_name_of_a_deed(self):
        for word in ("", " ", "bend", "bend 0", "bend 0 0 0", "bend 0 x", "bend 0 1 z", "bend  0 0", " bend 0 0", "bend 0 0 ",
                     "bend 0 0\n", "\nbend 0 0", "bend\n0 0", "Bend 0 0", "bend 00 0", "bend 0 -0", "bend +1 0", "bend 0 01",
                     "bend 0 1_0", "bend 0 1.0", "bend 0 1,0", "bend 0 --1", "bend 0 -", "out 0 1", "out 0 1 3", "out 0 1 -3",
                     "out 0 1 w", "out 0 1 zz", "out 0 1 -", "out 0 1 z z", "out z 1 z", "out 0 1 z\n", "hop 0 0 0", "hop", "out",
                     "hop x", "slide 0 0", "slide 0 0 x", "slide 0 0 0 0", "cut 0", "cut 0 0 0", "cut 0 0x1", "begin 0",
                     "back 0 0 z", "in 0 0 z", "hops 0 0 z", "undo 0 0", "0 0", "bend0 0", "bend 0 0~", "x", "cut 0 1e3"):
            self.assertIsNone(deed_read(word), repr(word))
            self.assertIsNone(told_deed(word), repr(word))

    def test_names_with_one_sign_changed(self):
        rng = random.Random(23)
        read = 0
        for deed in DEEDS * 60:
            word = bent(rng, deed_name(deed), rng.randint(0, 2))
            self.assertEqual(deed_read(word), told_deed(word), repr(word))
            read += told_deed(word) is not None
        self.assertGreater(read, 200)

    def test_great_numbers(self):
        for number in (GREAT, -GREAT, 10 ** 40):
            for deed in (("cut", number, -number), ("slide", 0, number, number), ("hop", number, number, 2)):
                self.assertEqual(deed_read(deed_name(deed)), deed)


def bent(rng, text, times):
    """The text with so many signs put in, left out or changed."""
    for _ in range(times):
        at, how = rng.randrange(len(text) + 1), rng.randrange(4)
        sign = rng.choice(SIGNS)
        if how == 0:
            text = text[:at] + sign + text[at:]
        elif how == 1:
            text = text[:at] + text[at + 1:]
        elif how == 2:
            text = text[:at] + sign + text[at + 1:]
        else:
            text = text[:at] + text[at:at + 1] + text[at:]
    return text


class Texts(unittest.TestCase):
    def test_of_yards(self):
        for yard in all_yards():
            text = yard_text(yard)
            lines = [f"cord {x}.{y}.{z} {strokes_name(strokes)}\n" for (x, y, z), strokes in yard]
            self.assertEqual(text, "".join(lines))
            self.assertEqual(read_yard(text), yard)

    def test_of_stands(self):
        for stand in model.stands():
            text = stand_text(stand)
            lines = [f"band {x}.{y}.{z} {strokes_name(strokes)} {','.join(map(str, turns))}\n"
                     for ((x, y, z), strokes), turns in stand]
            self.assertEqual(text, "".join(lines))
            self.assertEqual(read_stand(text), stand)

    def test_of_plans(self):
        for _, plan, _ in walks.plans():
            text = plan_text(plan)
            self.assertEqual(text, "".join(deed_name(deed) + "\n" for deed in plan))
            self.assertEqual(read_plan(text), plan)
        self.assertEqual(plan_text(()), "")
        self.assertEqual(plan_text([]), "")
        # Whether it is a PLAN of some STAND or not.
        self.assertEqual(read_plan(plan_text(DEEDS)), DEEDS)

    def test_numbers_at_the_bounds_and_beyond(self):
        for number in (FAR, -FAR, GREAT, -GREAT, 0, -1):
            cord = lab.moved(lab.SQUARE, (number, -number, 0))
            self.assertEqual(read_yard(yard_text((cord,))), (cord,))
            stand = ((cord, (number, -number, 8, -4)),)
            self.assertEqual(read_stand(stand_text(stand)), stand)

    def test_a_plan_of_300_deeds(self):
        plan = (DEEDS * 20)[:300]
        self.assertEqual(read_plan(plan_text(plan)), plan)
        self.assertEqual(len(plan_text(plan).split("\n")), 301)


class Reading(unittest.TestCase):
    def judged(self, text):
        """Whether all three readers tell what the tests tell."""
        kinds = []
        for function, line_of, is_one in READERS:
            own = told_by(text, line_of, is_one)
            self.assertEqual(told(function, text), own, repr(text))
            kinds.append(own[:1] if own and isinstance(own[0], str) else "told")
        return kinds

    def texts(self):
        found = [yard_text(yard) for yard in all_yards()[::6]] + [stand_text(stand) for stand in model.stands()[::9]]
        return found + [plan_text(plan) for _, plan, _ in walks.plans()[::9]]

    def test_line_breaks_at_the_end(self):
        for text in self.texts():
            self.assertEqual(self.judged(text), self.judged(text[:-1]))
            many = len(lines_of(text))
            for function, line_of, _ in READERS:
                if line_of(lines_of(text)[0]) is not None:
                    self.assertEqual(told(function, text[:-1]), told(function, text))
                    self.assertEqual(told(function, text + "\n"), ("BadLine", many))
                    self.assertEqual(told(function, text + "\n\n"), ("BadLine", many))
                    self.assertEqual(told(function, "\n" + text), ("BadLine", 0))
            self.judged(text + "\n")

    def test_the_empty_text_and_empty_lines(self):
        for text, yard, plan in (("", ("Unfit",), ()), ("\n", ("BadLine", 0), ("BadLine", 0)),
                                 ("\n\n", ("BadLine", 0), ("BadLine", 0)), (" ", ("BadLine", 0), ("BadLine", 0))):
            self.assertEqual(told(read_yard, text), yard)
            self.assertEqual(told(read_stand, text), yard)
            self.assertEqual(told(read_plan, text), plan)

    def test_one_sign_put_in_left_out_or_changed(self):
        rng = random.Random(24)
        kinds = {"told": 0, ("BadLine",): 0, ("Unfit",): 0}
        for text in self.texts():
            for _ in range(60):
                for kind in self.judged(bent(rng, text, rng.randint(1, 2))):
                    kinds[kind] += 1
        self.assertGreater(min(kinds.values()), 40)

    def test_each_sign_of_a_short_text_changed(self):
        for text in ("cord 0.0.0 xyXY\ncord 5.-1.20 zyZY\n", "band 0.0.0 xyXY 0,-4,10,2\n", "out 0 1 Z\nslide 0 2 -10\n"):
            for at in range(len(text)):
                for sign in SIGNS:
                    self.judged(text[:at] + sign + text[at + 1:])
                    self.judged(text[:at] + sign + text[at:])
                self.judged(text[:at] + text[at + 1:])
                self.judged(text[:at])

    def test_the_first_of_several_bad_lines(self):
        good = {read_yard: "cord 0.0.0 xyXY\n", read_stand: "band 0.0.0 xyXY 0,0,0,0\n", read_plan: "cut 0 1\n"}
        for function, line in good.items():
            for place in range(4):
                for bad in ("bad\n", "\n", line[:-1] + " \n", " " + line, line[:-2] + "\n" * (function is read_plan)):
                    text = line * place + bad + line + "worse\n"
                    own = told_by(text, dict((row[0], row[1]) for row in READERS)[function], lambda _: True)
                    self.assertEqual(own[0], "BadLine")
                    self.assertEqual(told(function, text), own)
        self.assertEqual(told(read_plan, "cut 0 1\ncut 0\ncut\n"), ("BadLine", 1))

    def test_lines_of_another_kind(self):
        yard, stand, plan = "cord 0.0.0 xyXY\n", "band 0.0.0 xyXY 0,0,0,0\n", "cut 0 1\n"
        for function, own in ((read_yard, yard), (read_stand, stand), (read_plan, plan)):
            for text in (yard, stand, plan):
                if text != own:
                    self.assertEqual(told(function, text), ("BadLine", 0))
                    self.assertEqual(told(function, own + text), ("BadLine", 1))

    def test_bad_lines_ahead_of_unfit(self):
        self.assertEqual(told(read_yard, "cord 0.0.0 xX\ncord 0.0.0 xw\n"), ("BadLine", 1))
        self.assertEqual(told(read_stand, "band 0.0.0 xyXY 1,0,0,0\nband 0.0.0 xyXY 0,0,0,0,\n"), ("BadLine", 1))

    def test_what_is_read_and_is_none(self):
        for text in ("cord 0.0.0 -\n", "cord 0.0.0 x\n", "cord 0.0.0 xX\n", "cord 0.0.0 xyX\n", "cord 0.0.0 xyXYxyXY\n",
                     "cord 0.0.0 xyXY\ncord 0.0.0 xyXY\n", "cord 0.0.0 xyXY\ncord 1.1.0 zyZY\n", "cord 1.2.3 xyxXYY"):
            self.assertEqual(told(read_yard, text), ("Unfit",))
        for text in ("band 0.0.0 - -\n", "band 0.0.0 xyXY -\n", "band 0.0.0 xyXY 0,0,0\n", "band 0.0.0 xyXY 0,0,0,0,0\n",
                     "band 0.0.0 xyXY 0,0,0,1\n", "band 0.0.0 xyX 0,0,0\n", "band 0.0.0 xyxzXXYZ 0,0,0,0,0,0,0,0\n",
                     "band 0.0.0 xyXY 0,0,0,0\nband 0.0.0 xyXY 0,0,0,0\n", "band 0.0.0 xyXY 4"):
            self.assertEqual(told(read_stand, text), ("Unfit",))

    def test_numbers_with_a_needless_0_or_a_minus_before_0(self):
        for number in ("00", "-0", "01", "-01", "+1", "--1", "", "-", "1_0", "0x1", " 1", "1 ", "1e1", "1.0.0", "x"):
            self.assertEqual(told(read_yard, f"cord {number}.0.0 xyXY"), ("BadLine", 0))
            self.assertEqual(told(read_yard, f"cord 0.0.{number} xyXY"), ("BadLine", 0))
            self.assertEqual(told(read_stand, f"band 0.{number}.0 xyXY 0,0,0,0"), ("BadLine", 0))
            self.assertEqual(told(read_stand, f"band 0.0.0 xyXY 0,{number},0,0"), ("BadLine", 0))
            self.assertEqual(told(read_stand, f"band 0.0.0 xyXY 0,0,0,{number}"), ("BadLine", 0))
            self.assertEqual(told(read_plan, f"cut 0 {number}"), ("BadLine", 0))

    def test_random_signs(self):
        rng = random.Random(25)
        for _ in range(2000):
            self.judged("".join(rng.choice(SIGNS) for _ in range(rng.randint(0, 12))))


class Wrong(unittest.TestCase):
    def test_what_is_no_yard_no_stand_no_deeds(self):
        for bad in lab.NO_YARDS[::3]:
            self.assertEqual(walks.told_error(yard_text, bad), ("Unfit",))
        for bad in lab.NO_STANDS[::3]:
            self.assertEqual(walks.told_error(stand_text, bad), ("Unfit",))

    def test_lists_in_the_place_of_tuples(self):
        yard, stand = (lab.HOOP, lab.RING), (lab.FLAT,)
        for own in lab.listed(yard):
            self.assertEqual(yard_text(own), yard_text(yard))
        for own in lab.listed(stand):
            self.assertEqual(stand_text(own), stand_text(stand))
        for own in lab.listed(DEEDS[:4]):
            self.assertEqual(plan_text(own), plan_text(DEEDS[:4]))


if __name__ == "__main__":
    unittest.main()
