"""TABLES of S and LINKS, the fewest hops between them, and ways between short CORDS."""

from fourlooks.bands import plain_band, whole
from fourlooks.cords import all_cords, begun, least_form, told_cord
from fourlooks.deeds import doable, done, told_stand
from fourlooks.errors import CanNot, TooMany, Unfit
from fourlooks.links import link_table
from fourlooks.quarters import quarters
from fourlooks.strokes import is_number
from fourlooks.tuples import tupled


def table(stand):
    """The TABLE that stand has."""
    return _table_of(told_stand(stand))


def _table_of(stand):
    """The TABLE of a STAND told in tuples: S of each BAND, and the LINKS of their CORDS."""
    return (tuple([whole(band) for band in stand]), link_table([cord for cord, turns in stand]))


def fewest_for(stand, table):
    """How many hops and backs a PLAN without cuts has at the least that leads from stand to one with this TABLE."""
    told = told_stand(stand)
    goal = tupled(table, 3)
    if not _is_table(goal, len(told)):
        raise Unfit()
    wholes, links = _table_of(told)
    apart = [abs(one - two) for one, two in zip(wholes, goal[0])]
    if any([number % 2 != 0 for number in apart]):
        raise CanNot()
    pairs = [(one, two) for two in range(len(told)) for one in range(two)]
    return sum(apart) // 2 + sum([abs(links[one][two] - goal[1][one][two]) for one, two in pairs])


def _is_table(value, many):
    """Whether value is a TABLE for so many BANDS."""
    if not (isinstance(value, tuple) and len(value) == 2):
        return False
    wholes, links = value
    if not (_are_numbers(wholes, many) and isinstance(links, tuple) and len(links) == many):
        return False
    if not all([_are_numbers(row, many) for row in links]):
        return False
    numbers = range(many)
    return all([links[k][k] == 0 for k in numbers]) and links == tuple([tuple(column) for column in zip(*links)])


def _are_numbers(value, many):
    """Whether value is a tuple of so many numbers."""
    return isinstance(value, tuple) and len(value) == many and all([is_number(part) for part in value])


def led_to(cord):
    """The list, ascending, of the least forms of at most 6 strokes to which cord leads."""
    told = told_cord(cord)
    if len(told[1]) > 8:
        raise TooMany()
    return sorted(set([least_form(led) for led in _led(told) if len(led[1]) <= 6]))


def _led(cord):
    """The list of the CORDS to which a bend, an out or an in leads from cord, begun at any of its POINTS."""
    # Of the three strokes, at most, that a DEED names, none goes round the end in one of these two.
    begins = (0, len(cord[1]) // 2)
    stands = [(plain_band(begun(cord, place), 0),) for place in begins]
    return [done(stand, deed)[0][0]
            for stand in stands for word in ("bend", "out", "in") for deed in doable(stand, 0, word)]


def least_way(cord, other):
    """The least one of the shortest lists of least forms from that of cord to that of other, each led to by the
    one ahead."""
    begin, goal = least_form(cord), least_form(other)
    if len(begin[1]) > 6 or len(goal[1]) > 6:
        raise TooMany()
    ways = [[begin]]
    known = {begin: True}
    while goal not in known:
        ways = _longer(ways, known)
    return [way for way in ways if way[-1] == goal][0]


def _longer(ways, known):
    """The ways, ascending, by one form longer, to forms that are not known; they are known then."""
    found = []
    for way in ways:
        # Ways ascend: the first one that comes to a form is the least one.
        for form in led_to(way[-1]):
            if form not in known:
                known[form] = True
                found.append(way + [form])
    return found


def counted(many, number):
    """How many of all_cords(many) have QUARTERS number."""
    return len([cord for cord in all_cords(many) if quarters(cord) == number])
