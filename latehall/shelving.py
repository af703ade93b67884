"""How a library is put on a shelf."""

from latehall.errors import Full
from latehall.libraries import MOST_LIBRARIES


def shelved(shelf, library):
    """The shelf with a library in the place of the one with its name, or behind the others; Full."""
    places = [at for at, other in enumerate(shelf) if other[0] == library[0]]
    at = places[0] if places else len(shelf)
    if at == MOST_LIBRARIES:
        raise Full()
    return (*shelf[:at], library, *shelf[at + 1:])
