"""Plants: they go as halls do, by images in a room and a machine of numbers."""

from latehall.courses import Course
from latehall.grounds import Ground
from latehall.holds import Hold, number_by
from latehall.machines import Machine
from latehall.memories import Memory


class Plant:
    """A plant of a shelf and a main library; pad addresses are taken first."""

    def __init__(self, shelf, main, *, ahead=(), early=False, faint=False, pad=0):
        self._memory = Memory(pad)
        ground = Ground(shelf, early, faint, self._memory)
        self._course = Course(ground, Machine(ground), ahead)
        self._course.make(main)

    def __len__(self):
        return len(self._memory.lots)

    def bring(self, name, *, shared=False, early=False, apart=False):
        """Brings a library; told is a hold of it; Ended, NoLibrary, Unmet."""
        return Hold(self, self._course.bring(name, shared=shared, early=early, apart=apart), name)

    def drop(self, hold):
        """Drops a hold's opening once; Closed."""
        self._course.drop(number_by(self, hold))

    def hold(self, number):
        """A hold of what is held under a number, of any thing; Closed."""
        self._course.ask_held(number)
        return Hold(self, number, self._course.name_of(number))

    def look(self, hold, word, *, version="", cell=False):
        """What a use means in the walk of a hold's instance; Closed."""
        return self._course.look(number_by(self, hold), word, version=version, cell=cell)

    def call(self, hold, word, *, version=""):
        """Does the deed that a word means from a hold; Closed, NoWord."""
        self._course.call(number_by(self, hold), word, version=version)

    def show(self, hold, word, *, version=""):
        """The number in the cell that a word means from a hold; Closed, NoWord."""
        return self._course.show(number_by(self, hold), word, version=version)

    def shelve(self, library):
        """Puts a library on the shelf; Full."""
        self._course.shelve(library)

    def end(self):
        """All that stands goes; Ended."""
        self._course.end()

    def told(self):
        """All that was told."""
        return self._course.told()

    def state(self):
        """All that a hall would go on by, as tuples."""
        return self._course.state()

    def images(self):
        """The images that lie: (base, length, instance), rising."""
        return self._memory.images()

    def number_at(self, address):
        """The number at an address; Vacant where no image lies."""
        return self._memory.number_at(address)
