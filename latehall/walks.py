"""Walks: a library, then what it needs, then what these need, each name once."""

from latehall.errors import NoLibrary
from latehall.ways import led_from


def walk_of(shelf, name, *, ahead=()):
    """The walk of a library of a shelf, with names put ahead of its own needs."""
    return walk_by(name, needs_of(shelf, name, ahead))


def needs_of(shelf, name, ahead):
    """The needs of a shelf's libraries by their names, with names ahead for one of them."""
    needs = {library[0]: library[1] for library in shelf}
    if name in needs:
        needs[name] = (*ahead, *[need for need in needs[name] if need not in ahead])
    return needs


def walk_by(start, needs):
    """The walk from a start by a dict of needs; NoLibrary with the first one met that has no needs there."""
    walk = list(led_from([start], needs))
    for one in walk:
        if one not in needs:
            raise NoLibrary(one)
    return walk
