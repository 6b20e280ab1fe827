"""A Board: a STAND to which DEEDS are done, taken back and done again."""

from fourlooks.deeds import can_do, done, told_deed, told_stand
from fourlooks.errors import NothingDone
from fourlooks.plans import behind_plan, told_plan
from fourlooks.rooms import hops_of
from fourlooks.yards import table


class Board:
    """A STAND with what was done to it."""

    def __init__(self, stand):
        self._begin = told_stand(stand)
        # What was done, and what was taken back, the last one last: its name, its DEEDS, the STAND behind them.
        self._past = []
        self._future = []

    def do(self, deed):
        """Does one DEED."""
        behind = done(self.stand(), deed)
        self._add("do", (told_deed(deed),), behind)

    def follow(self, plan):
        """Does all DEEDS of plan, as one deed."""
        behind = behind_plan(self.stand(), plan)
        self._add("follow", told_plan(plan), behind)

    def _add(self, name, deeds, behind):
        """Notes what was done; what was taken back is not done again any more."""
        self._past.append((name, deeds, behind))
        self._future = []

    def undo(self):
        """Takes the last deed back; tells its name."""
        return _passed_over(self._past, self._future)

    def redo(self):
        """Does again what was taken back last; tells its name."""
        return _passed_over(self._future, self._past)

    def first(self):
        """The STAND that was handed in."""
        return self._begin

    def stand(self):
        """The STAND now."""
        return self._past[-1][2] if self._past else self._begin

    def plan(self):
        """The tuple of all DEEDS that were done and are not taken back."""
        return tuple([deed for name, deeds, behind in self._past for deed in deeds])

    def could(self, deed):
        """Whether deed can be done now."""
        return can_do(self.stand(), deed)

    def table_now(self):
        """The TABLE of the STAND now."""
        return table(self.stand())

    def hops_done(self):
        """How many hops and backs were done and are not taken back."""
        return len(hops_of(self.plan()))

    def cuts_done(self):
        """For each BAND the numbers of its cuts that were done and are not taken back, added up."""
        cuts = [deed for deed in self.plan() if deed[0] == "cut"]
        return tuple([sum([deed[2] for deed in cuts if deed[1] == number]) for number in range(len(self._begin))])

    def twin(self):
        """Another Board that holds the same."""
        other = Board(self._begin)
        other._past = list(self._past)
        other._future = list(self._future)
        return other

    def __eq__(self, other):
        return isinstance(other, Board) and self._begin == other._begin and self.plan() == other.plan()


def _passed_over(deeds, others):
    """Takes the last one of the deeds from them to the others; tells its name."""
    if not deeds:
        raise NothingDone()
    last = deeds.pop()
    others.append(last)
    return last[0]
