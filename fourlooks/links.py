"""LINKS of CORDS without a common POINT."""

from fourlooks.cords import told_yard
from fourlooks.looks import seen_between
from fourlooks.shadows import pushed_link


def link(cord, other):
    """The LINK of two CORDS."""
    one, two = told_yard((cord, other))
    return _link(one, two)


def link_by(cord, other, look):
    """Half of the signs of their CROSSINGS by look, added up."""
    return seen_between(cord, other, look) // 2


def link_table(yard):
    """For each CORD of yard the tuple of its LINKS with all of them, in order; 0 with itself."""
    told = told_yard(yard)
    numbers = range(len(told))
    return tuple([tuple([_link(told[one], told[two]) if one != two else 0 for two in numbers]) for one in numbers])


def linked_lots(yard):
    """The list, ascending, of the sets of the numbers of all CORDS that hang together."""
    lots = []
    for number, row in enumerate(link_table(yard)):
        near = [lot for lot in lots if any([row[own] != 0 for own in lot])]
        joined = sorted([number] + [own for lot in near for own in lot])
        lots = [lot for lot in lots if lot not in near] + [tuple(joined)]
    return sorted(lots)


def _link(cord, other):
    """The LINK of two CORDS told in tuples that have no common POINT."""
    # Pushed a little, the other one meets this one no more than it does now.
    return pushed_link(cord, other, (1, 1, 1))
