"""Nets (many, roots, leads): what is reached from the roots, ways to it, and cuts."""

from latehall.things import is_whole
from latehall.ways import led_from, way_back


def reached(net):
    """The numbers that are reached, rising."""
    return sorted(_led(net))


def way_to(net, number):
    """A shortest way to a number, or None where it isn't reached."""
    ahead = _led(net)
    return way_back(ahead, number) if number in ahead else None


def is_way(net, number, thing):
    """Whether a thing is a way to a number."""
    _, roots, leads = net
    if not _is_list_of_wholes(thing) or len(thing) == 0:
        return False
    if thing[0] not in roots or thing[-1] != number:
        return False
    pairs = set(leads)
    return all([step in pairs for step in zip(thing[:-1], thing[1:])])


def is_cut(net, thing):
    """Whether a thing is a cut."""
    many, roots, leads = net
    if not _is_list_of_wholes(thing):
        return False
    within = {number: True for number in thing}
    # It is rising, and its numbers unlike, where it is just these in order.
    if thing != sorted(within) or not all([0 <= number < many for number in thing]):
        return False
    if any([root in within for root in roots]):
        return False
    return not any([other in within and one not in within for one, other in leads])


def _led(net):
    _, roots, leads = net
    others = {}
    for one, other in leads:
        others.setdefault(one, []).append(other)
    return led_from(roots, others)


def _is_list_of_wholes(thing):
    return isinstance(thing, list) and all([is_whole(part) for part in thing])
