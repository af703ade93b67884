"""Halls: a main library with all it needs, and what is brought, call after call."""

from latehall.courses import Course
from latehall.grounds import Ground
from latehall.holds import Hold, number_by
from latehall.nets import way_to
from latehall.runs import Runs
from latehall.stores import Store


class Hall:
    """A hall of a shelf and a main library."""

    def __init__(self, shelf, main, *, ahead=(), early=False, faint=False):
        self._course = course_of_hall(shelf, ahead, early, faint)
        self._ground = self._course.ground
        self._course.make(main)

    def __len__(self):
        return len(self._ground.instances)

    def bring(self, name, *, shared=False, early=False, apart=False):
        """Brings a library; told is a hold of it; Ended, NoLibrary, Unmet."""
        return Hold(self, self._course.bring(name, shared=shared, early=early, apart=apart), name)

    def drop(self, hold):
        """Drops a hold's opening once; Closed."""
        self._course.drop(number_by(self, hold))

    def hold(self, number):
        """A hold of what is held under a number, of any thing; Closed."""
        self._course.ask_held(number)
        return Hold(self, number, self._course.name_of(number))

    def look(self, hold, word, *, version="", cell=False):
        """What a use means in the walk of a hold's instance; Closed."""
        return self._course.look(number_by(self, hold), word, version=version, cell=cell)

    def call(self, hold, word, *, version=""):
        """Does the deed that a word means from a hold; Closed, NoWord."""
        self._course.call(number_by(self, hold), word, version=version)

    def show(self, hold, word, *, version=""):
        """The number in the cell that a word means from a hold; Closed, NoWord."""
        return self._course.show(number_by(self, hold), word, version=version)

    def shelve(self, library):
        """Puts a library on the shelf; Full."""
        self._course.shelve(library)

    def end(self):
        """All that stands goes; Ended."""
        self._course.end()

    def told(self):
        """All that was told."""
        return self._course.told()

    def stands(self):
        """What stands: (number, space, name), rising."""
        instances = self._ground.instances
        return [(number, instances[number].space, instances[number].library[0]) for number in sorted(instances)]

    def held(self):
        """The numbers of what is held, in the order of the openings."""
        return list(self._ground.openings)

    def walk(self, number):
        """The walk of an instance that stands."""
        return self._ground.walk_from(number)

    def scope(self, number):
        """The scope of an instance that stands."""
        return self._ground.scope_of(number)

    def all_of(self, space):
        """The list of all of a space."""
        return self._ground.list_of_all(space)

    def means(self, number):
        """For each use of an instance that stands what it is bound to, or None."""
        return self._ground.store.bound_of(number)

    def cells_of(self, number):
        """The numbers in the cells of an instance that stands, by its gives' numbers."""
        return self._ground.store.cells_of(number)

    def beginning(self):
        """The numbers of what stands, in the order in which they were begun."""
        return list(self._ground.begun)

    def net(self):
        """The net of what stands: how many came, what stays by itself, what leads to what."""
        return self._course.net()

    def why(self, number):
        """Why an instance stands: (word, way); None of one that doesn't."""
        way = way_to(self.net(), number)
        return None if way is None else (self._course.root_word(way[0]), way)

    def gone(self):
        """What went by the last call by which something may go, and the net as it began."""
        numbers, (many, roots, leads) = self._course.last_going
        return (list(numbers), (many, list(roots), list(leads)))

    def state(self):
        """All that the hall goes on by, as tuples."""
        return self._course.state()

    def turned_by(self, library):
        """The bound uses that would mean another give if they were bound now, and the
        instances under the library's name had its gives: (instance, use, meaning)."""
        turned = []
        for number, at, means in self._course.bound_uses():
            use = self._ground.instances[number].library[3][at]
            scope = self._ground.scope_of(number)
            libraries = [self._ground.instances[other].library for other in scope]
            libraries = [library if other[0] == library[0] else other for other in libraries]
            now = self._ground.meant_by(scope, libraries, use)
            if now != means:
                turned.append((number, at, now))
        return turned


def course_of_hall(shelf, ahead, early, faint):
    """The course that a hall goes by, ahead of its making."""
    ground = Ground(shelf, early, faint, Store())
    return Course(ground, Runs(ground), ahead)
