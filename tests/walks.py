"""PLANS for the tests, walked by the tests' own model of the DEEDS; QUARTERS alone are counted by the package."""

import random
from functools import lru_cache

import lab
import model
from fourlooks.quarters import quarters

FAR = 10 ** 6
STRAND_WORDS = ("bend", "out", "in", "hop", "back")


def cords_of(stand):
    return tuple(cord for cord, _ in stand)


def behind(stand, deed):
    """The STAND behind deed; raises model.Refused as done does."""
    return model.behind(stand, deed, quarters)


def walked(stand, plan):
    """The STANDS along a PLAN, stand itself ahead; raises model.Refused where it breaks."""
    stands = [stand]
    for deed in plan:
        stands.append(behind(stands[-1], deed))
    return stands


def broken_at(stand, plan):
    """The place at which the DEEDS break, and the name of the error; None if they are a PLAN."""
    for place, deed in enumerate(plan):
        try:
            stand = behind(stand, deed)
        except model.Refused as refused:
            return place, refused.told[0]
    return None


def doable(stand, words=STRAND_WORDS):
    """The DEEDS with these words, which change strokes, that can be done, as the tests find them."""
    found = []
    for deed in model.strand_deeds(cords_of(stand), words):
        try:
            model.bent_cord(cords_of(stand), deed)
        except model.Refused:
            continue
        found.append(deed)
    return found


def random_deed(rng, stand, words):
    """A DEED with one of the words; it may be that it can not be done."""
    word, number = rng.choice(words), rng.randrange(len(stand))
    place = rng.randrange(len(stand[number][1]))
    if word == "cut":
        return (word, number, rng.randint(-3, 3))
    if word == "slide":
        return (word, number, place, rng.randint(-9, 9))
    return (word, number, place) + ((rng.choice(lab.STROKES),) if word in ("out", "hop") else ())


def random_plan(rng, stand, many, words=("bend", "bend", "out", "in", "slide", "begin", "cut")):
    """A PLAN of stand with so many DEEDS, hops and backs among them where there are some."""
    plan = []
    for _ in range(many):
        rare = doable(stand, (rng.choice(("hop", "back", "in")),)) if rng.random() < 0.6 else []
        deed = rng.choice(rare) if rare else random_deed(rng, stand, words)
        while True:
            try:
                led = behind(stand, deed)
                if max(len(turns) for _, turns in led) <= 40 or deed[0] in ("in", "back"):
                    break
            except model.Refused:
                pass
            deed = random_deed(rng, stand, words)
        stand = led
        plan.append(deed)
    return tuple(plan)


@lru_cache(maxsize=None)
def plans():
    """STANDS with PLANS of them and the STANDS along these."""
    rng = random.Random(1415)
    found = []
    for at, stand in enumerate(model.stands()):
        if at % 2 == 0 or len(stand) == 1 or at > 52:
            plan = random_plan(rng, stand, rng.choice((1, 4, 9, 16)))
            found.append((stand, plan, tuple(walked(stand, plan))))
    return tuple(found)


def sums(pairs):
    return tuple(map(sum, zip(*pairs))) if pairs else (0, 0)


def told_error(call, *arguments):
    """The name of the error that a call raises and what it keeps, as one tuple; None if it raises none."""
    try:
        call(*arguments)
    except (LookupError, ValueError) as error:
        assert type(error).__module__ == "fourlooks.errors", repr(error)
        return (type(error).__name__,) + tuple(vars(error).values())
    return None


def misplaced():
    """DEEDS for BANDS and places that are not there in a STAND of two BANDS, the first one of 8 strokes, each with
    the error that it raises."""
    found = [(("cut", number, 0), ("NoBand", number)) for number in (2, -1)]
    for word, more in (("bend", ()), ("out", (1,)), ("in", ()), ("hop", (1,)), ("back", ()), ("slide", (1,)), ("begin", ())):
        found += [((word, number, -1) + more, ("NoBand", number)) for number in (-1, 2, FAR)]
        places = ((-1, -1), (8, 8), (9 - model.WANTED[word], 8), (-FAR, -FAR), (FAR, FAR))
        found += [((word, 0, place) + more, ("NoPlace", missing)) for place, missing in places]
    return found
