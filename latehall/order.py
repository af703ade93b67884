"""The order in which libraries begin: part by part, what is needed ahead."""

from latehall.walks import needs_of, walk_by
from latehall.ways import led_from, way_back


def parts_of(shelf, name):
    """The parts of a library's walk, in the order in which they begin."""
    needs = needs_of(shelf, name, ())
    return parts_by(walk_by(name, needs), needs)


def order_of(shelf, name):
    """The order of beginnings of a library."""
    needs = needs_of(shelf, name, ())
    return order_by(walk_by(name, needs), needs)


def wrong_at(shelf, name, thing):
    """What is wrong with a thing as an order in which all may begin: None, or
    (place, need)."""
    parts = parts_of(shelf, name)
    needs = needs_of(shelf, name, ())
    if not isinstance(thing, list):
        return (0, None)
    places = {member: place for place, part in enumerate(parts) for member in part}
    stood = {}
    for at, one in enumerate(thing):
        # Not each thing may be sought in a dict, so that it is a text is asked first.
        if not isinstance(one, str) or one not in places or one in stood:
            return (at, None)
        for need in needs[one]:
            if places[need] != places[one] and need not in stood:
                return (at, need)
        stood[one] = True
    return None if len(stood) == len(places) else (len(thing), None)


def round_of(shelf, one, other):
    """Why two libraries are of one part: a round from the first by the second;
    None where they aren't."""
    needs = needs_of(shelf, one, ())
    part = _part_with(parts_by(walk_by(one, needs), needs), one)
    if other not in part:
        return None
    if part == [one]:
        return part
    # From a library to itself the round leads by any other one of its part.
    far = other if other != one else [name for name in part if name != one][0]
    return _way(needs, one, far)[:-1] + _way(needs, far, one)[:-1]


def parts_by(walk, needs):
    """The parts of a walk by a dict of needs, in the order in which they begin."""
    reach = {one: walk_by(one, needs) for one in walk}
    parts = []
    left = list(walk)
    while left:
        # A part needs no other part left if all that it needs and is left needs it, too.
        free = [one for one in left if all([one in reach[other] for other in reach[one] if other in left])]
        part = [other for other in left if other in reach[free[0]] and free[0] in reach[other]]
        parts.append(part)
        left = [other for other in left if other not in part]
    return parts


def order_by(walk, needs):
    """The order of beginnings of a walk by a dict of needs."""
    return [one for part in parts_by(walk, needs) for one in part]


def _part_with(parts, one):
    return [part for part in parts if one in part][0]


def _way(needs, one, other):
    return way_back(led_from([one], needs), other)
