"""Late and early: where a hall whose uses are bound as they are called, and one
whose uses are bound as their libraries come, part."""

from latehall.courses import Course
from latehall.grounds import Ground
from latehall.history import MAKING, answer_of, is_refused
from latehall.runs import Runs
from latehall.stores import Store


class WatchedRuns(Runs):
    """Runs that keep what was done that hangs on what is bound, in its order."""

    def __init__(self, ground):
        super().__init__(ground)
        self.doings = []

    def new_doings(self):
        """What was done since it was asked last."""
        doings = self.doings
        self.doings = []
        return doings

    def finish(self, numbers):
        """Does the lasts of those that go, then they are gone."""
        self.doings.append(("gone", tuple(sorted(numbers))))
        super().finish(numbers)

    def meant(self, number, use):
        """What a deed's use means as it is called."""
        means = super().meant(number, use)
        self.doings.append(("use", number, use, means))
        return means

    def brought(self, number, name, shared):
        """What comes by a row of an instance; None where it is refused."""
        brought = super().brought(number, name, shared)
        self.doings.append(("row", number, name, brought is not None))
        return brought


def parted(shelf, main, calls, *, ahead=(), faint=False):
    """Where a late hall and an early one part first, or None."""
    late = _watched(shelf, ahead, False, faint)
    early = _watched(shelf, ahead, True, faint)
    for k, call in enumerate([(MAKING, main), *calls], start=-1):
        told = answer_of(late, call)
        other = answer_of(early, call)
        if other != told and other[:2] == ("no", "Unmet"):
            return ("unmet", k, *other[2])
        # Up to a parting both do the same, so their doings stand side by side.
        for doing, otherwise in zip(late.runs.new_doings(), early.runs.new_doings()):
            if doing != otherwise:
                return _parting(k, doing, otherwise)
        if is_refused(told) and call[0] == MAKING:
            return None
    return None


def _watched(shelf, ahead, early, faint):
    ground = Ground(shelf, early, faint, Store())
    return Course(ground, WatchedRuns(ground), ahead)


def _parting(k, doing, otherwise):
    """The parting of what the late hall does, and the early one otherwise."""
    if doing[0] == "gone":
        return ("gone", k, min([number for number in doing[1] if number not in otherwise[1]]))
    if doing[0] == "row":
        return ("row", k, doing[1], doing[2])
    return ("use", k, *doing[1:], otherwise[3])
