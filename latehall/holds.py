"""Holds: what a hall tells of an instance that is brought."""

from latehall.errors import Closed


class Hold:
    """A hold of an instance of a hall; made by the hall alone."""

    def __init__(self, hall, number, name):
        self.hall = hall
        self.number = number
        self.name = name

    def __eq__(self, other):
        return isinstance(other, Hold) and self.hall == other.hall and self.number == other.number


def number_by(hall, thing):
    """The instance's number where a thing is a hold of this hall; Closed."""
    if not isinstance(thing, Hold) or thing.hall != hall:
        raise Closed()
    return thing.number
