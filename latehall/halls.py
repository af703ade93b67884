"""Halls: a main library with all it needs, and what is brought, call after call."""

from latehall.comings import come, come_as_main
from latehall.errors import Closed, Ended, Full, NoWord
from latehall.grounds import MAIN, MAIN_SPACE, Ground
from latehall.holds import Hold
from latehall.libraries import MOST_LIBRARIES
from latehall.nets import reached, way_to
from latehall.runs import Runs
from latehall.things import is_whole


class Hall:
    """A hall of a shelf and a main library."""

    def __init__(self, shelf, main, *, ahead=(), early=False, faint=False):
        self._ahead = ahead
        self._has_ended = False
        self._ground = Ground(shelf, early, faint)
        self._runs = Runs(self._ground)
        come_as_main(self._ground, main, ahead)
        self._runs.begin(MAIN)
        self._let_go()

    def __len__(self):
        return len(self._ground.instances)

    def bring(self, name, *, shared=False, early=False, apart=False):
        """Brings a library; told is a hold of it; Ended, NoLibrary, Unmet."""
        self._ask_not_ended()
        space = self._ground.next_space if apart else MAIN_SPACE
        number = come(self._ground, space, name, shared=shared, early=early)
        if apart:
            self._ground.next_space += 1
        self._runs.begin(number)
        # A first may have dropped it again, so it may be gone behind the call.
        hold = Hold(self, number, name)
        self._let_go()
        return hold

    def drop(self, hold):
        """Drops a hold's opening once; Closed."""
        self._ask_held(hold)
        self._ground.count_down(hold.number)
        self._let_go()

    def hold(self, number):
        """A hold of what is held under a number, of any thing; Closed."""
        if not is_whole(number) or number not in self._ground.openings:
            raise Closed()
        return Hold(self, number, self._ground.instances[number].library[0])

    def look(self, hold, word, *, version="", cell=False):
        """What a use means in the walk of a hold's instance; Closed."""
        self._ask_held(hold)
        return self._ground.meant(self._ground.walk_from(hold.number), (word, version, cell, True))

    def call(self, hold, word, *, version=""):
        """Does the deed that a word means from a hold; Closed, NoWord."""
        means = self.look(hold, word, version=version)
        if means is None:
            raise NoWord(word)
        self._runs.call(means)
        self._let_go()

    def show(self, hold, word, *, version=""):
        """The number in the cell that a word means from a hold; Closed, NoWord."""
        means = self.look(hold, word, version=version, cell=True)
        if means is None:
            raise NoWord(word)
        giver, give = means
        return self._ground.instances[giver].cells[give]

    def shelve(self, library):
        """Puts a library on the shelf; Full."""
        shelf = self._ground.shelf
        places = [at for at, other in enumerate(shelf) if other[0] == library[0]]
        at = places[0] if places else len(shelf)
        if at == MOST_LIBRARIES:
            raise Full()
        self._ground.shelf = (*shelf[:at], library, *shelf[at + 1:])

    def end(self):
        """All that stands goes; Ended."""
        self._ask_not_ended()
        self._has_ended = True
        self._ground.openings = {}
        self._let_go()

    def told(self):
        """All that was told."""
        return list(self._runs.tellings)

    def stands(self):
        """What stands: (number, space, name), rising."""
        instances = self._ground.instances
        return [(number, instances[number].space, instances[number].library[0]) for number in sorted(instances)]

    def held(self):
        """The numbers of what is held, in the order of the openings."""
        return list(self._ground.openings)

    def walk(self, number):
        """The walk of an instance that stands."""
        return self._ground.walk_from(number)

    def scope(self, number):
        """The scope of an instance that stands."""
        return self._ground.scope_of(number)

    def all_of(self, space):
        """The list of all of a space."""
        return self._ground.list_of_all(space)

    def means(self, number):
        """For each use of an instance that stands what it is bound to, or None."""
        return list(self._ground.instances[number].bound)

    def cells_of(self, number):
        """The numbers in the cells of an instance that stands, by its gives' numbers."""
        return dict(self._ground.instances[number].cells)

    def beginning(self):
        """The numbers of what stands, in the order in which they were begun."""
        return list(self._ground.begun)

    def net(self):
        """The net of what stands: how many came, what stays by itself, what leads to what."""
        instances = self._ground.instances
        roots = [number for number in sorted(instances) if self._root_word(number) is not None]
        pairs = [(number, other) for number in instances for other in self._ground.leads[number]]
        bound = [(number, means[0]) for number in instances for means in instances[number].bound if means is not None]
        return (self._ground.next_number, roots, sorted(set(pairs + bound)))

    def why(self, number):
        """Why an instance stands: (word, way); None of one that doesn't."""
        way = way_to(self.net(), number)
        return None if way is None else (self._root_word(way[0]), way)

    def gone(self):
        """What went by the last call by which something may go, and the net as it began."""
        numbers, (many, roots, leads) = self._gone
        return (list(numbers), (many, list(roots), list(leads)))

    def state(self):
        """All that the hall goes on by, as tuples."""
        ground = self._ground
        instances = ground.instances
        openings = [(number, count, shared) for number, (count, shared) in ground.openings.items()]
        standing = [(number, instances[number].space, instances[number].library) for number in ground.begun]
        bound = [(number, use, *means) for number, use, means in self._bound_uses()]
        cells = [(number, give, instances[number].cells[give])
                 for number in sorted(instances) for give in sorted(instances[number].cells)]
        coming = (ground.next_number, ground.next_space)
        return (ground.shelf, ground.early, ground.faint, self._ahead,
                tuple(openings), tuple(standing), tuple(bound), tuple(cells), coming)

    def turned_by(self, library):
        """The bound uses that would mean another give if they were bound now, and the
        instances under the library's name had its gives: (instance, use, meaning)."""
        turned = []
        for number, at, means in self._bound_uses():
            use = self._ground.instances[number].library[3][at]
            scope = self._ground.scope_of(number)
            libraries = [self._ground.instances[other].library for other in scope]
            libraries = [library if other[0] == library[0] else other for other in libraries]
            now = self._ground.meant_by(scope, libraries, use)
            if now != means:
                turned.append((number, at, now))
        return turned

    def _bound_uses(self):
        instances = self._ground.instances
        return [(number, use, means) for number in sorted(instances)
                for use, means in enumerate(instances[number].bound) if means is not None]

    def _root_word(self, number):
        """Why an instance that stands is kept by itself, or None where it isn't."""
        if self._has_ended:
            return None
        if number == MAIN:
            return "main"
        if number in self._ground.openings:
            return "held"
        return "stays" if "stays" in self._ground.instances[number].library[6] else None

    def _let_go(self):
        net = self.net()
        kept = reached(net)
        going = [number for number in list(self._ground.begun)[::-1] if number not in kept]
        self._runs.end(going)
        self._gone = (going, net)

    def _ask_not_ended(self):
        if self._has_ended:
            raise Ended()

    def _ask_held(self, hold):
        if not isinstance(hold, Hold) or hold.hall is not self or hold.number not in self._ground.openings:
            raise Closed()
