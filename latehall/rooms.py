"""Rooms: addresses from 0 on, of which stretches are taken and given back."""

from latehall.errors import NotTaken
from latehall.things import is_whole


class Room:
    """A room, all free at first."""

    def __init__(self):
        # (from, length) of what is taken, rising.
        self._stretches = []

    def take(self, length):
        """Takes as many addresses in one stretch, from the least one on where they lie free."""
        at = 0
        place = 0
        while place < len(self._stretches) and self._stretches[place][0] < at + length:
            at = _end(self._stretches[place])
            place += 1
        self._stretches.insert(place, (at, length))
        return at

    def give_back(self, at):
        """Gives a stretch back; NotTaken where none begins there."""
        starts = [start for start, _ in self._stretches]
        if not is_whole(at) or at not in starts:
            raise NotTaken(at)
        del self._stretches[starts.index(at)]

    def taken(self):
        """The stretches that are taken: (from, length), rising."""
        return list(self._stretches)

    def height(self):
        """How many addresses lie below the end of the last stretch."""
        return _end(self._stretches[-1]) if self._stretches else 0


def _end(stretch):
    start, length = stretch
    return start + length
