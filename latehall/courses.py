"""Courses: how a hall goes, call after call, instances told by their numbers."""

from latehall.comings import come, come_as_main
from latehall.errors import Closed, Ended, NoWord
from latehall.grounds import MAIN, MAIN_SPACE
from latehall.nets import reached
from latehall.shelving import shelved
from latehall.things import is_whole


class Course:
    """The calls of a hall, or of what goes as one, on a ground and by what does rows there."""

    def __init__(self, ground, runs, ahead):
        self.ground = ground
        self.runs = runs
        self.ahead = ahead
        self.has_ended = False
        self.last_going = ([], (0, [], []))

    def make(self, main):
        """The main comes and begins; told is its number; NoLibrary, Unmet."""
        come_as_main(self.ground, main, self.ahead)
        self.runs.begin(MAIN)
        self._let_go()
        return MAIN

    def bring(self, name, *, shared, early, apart):
        """Brings a library; told is its instance's number; Ended, NoLibrary, Unmet."""
        self._ask_not_ended()
        space = self.ground.next_space if apart else MAIN_SPACE
        number = come(self.ground, space, name, shared=shared, early=early)
        if apart:
            self.ground.next_space += 1
        self.runs.begin(number)
        self._let_go()
        return number

    def drop(self, number):
        """Drops an opening once; Closed."""
        self.ask_held(number)
        self.ground.count_down(number)
        self._let_go()

    def look(self, number, word, *, version, cell):
        """What a use means in the walk of what is held; Closed."""
        self.ask_held(number)
        return self.ground.meant(self.ground.walk_from(number), (word, version, cell, True))

    def call(self, number, word, *, version):
        """Does the deed that a word means from what is held; Closed, NoWord."""
        means = self.look(number, word, version=version, cell=False)
        if means is None:
            raise NoWord(word)
        self.runs.call(means)
        self._let_go()

    def show(self, number, word, *, version):
        """The number in the cell that a word means from what is held; Closed, NoWord."""
        means = self.look(number, word, version=version, cell=True)
        if means is None:
            raise NoWord(word)
        giver, give = means
        return self.ground.store.cell(giver, give)

    def shelve(self, library):
        """Puts a library on the shelf; Full."""
        self.ground.shelf = shelved(self.ground.shelf, library)

    def end(self):
        """All that stands goes; Ended."""
        self._ask_not_ended()
        self.has_ended = True
        self.ground.openings = {}
        self._let_go()

    def told(self):
        """All that was told."""
        return list(self.runs.tellings)

    def ask_held(self, number):
        """Refuses a number, any thing, under which nothing is held; Closed."""
        if not is_whole(number) or number not in self.ground.openings:
            raise Closed()

    def name_of(self, number):
        """The name of an instance that stands."""
        return self.ground.instances[number].library[0]

    def net(self):
        """The net of what stands: how many came, what stays by itself, what leads to what."""
        ground = self.ground
        roots = [number for number in sorted(ground.instances) if self.root_word(number) is not None]
        needed = [(number, other) for number in ground.instances for other in ground.leads[number]]
        meant = [(number, means[0]) for number, _, means in self.bound_uses()]
        return (ground.next_number, roots, sorted(set(needed + meant)))

    def root_word(self, number):
        """Why an instance that stands is kept by itself, or None where it isn't."""
        if self.has_ended:
            return None
        if number == MAIN:
            return "main"
        if number in self.ground.openings:
            return "held"
        return "stays" if "stays" in self.ground.instances[number].library[6] else None

    def bound_uses(self):
        """(instance, use, meaning) of all that is bound, rising."""
        ground = self.ground
        return [(number, use, means) for number in sorted(ground.instances)
                for use, means in enumerate(ground.store.bound_of(number)) if means is not None]

    def state(self):
        """All that is gone on by, as tuples."""
        ground = self.ground
        openings = [(number, count, shared) for number, (count, shared) in ground.openings.items()]
        standing = [(number, ground.instances[number].space, ground.instances[number].library)
                    for number in ground.begun]
        bound = [(number, use, *means) for number, use, means in self.bound_uses()]
        cells = [(number, give, worth) for number in sorted(ground.instances)
                 for give, worth in sorted(ground.store.cells_of(number).items())]
        coming = (ground.next_number, ground.next_space)
        return (ground.shelf, ground.early, ground.faint, self.ahead,
                tuple(openings), tuple(standing), tuple(bound), tuple(cells), coming)

    def _let_go(self):
        net = self.net()
        kept = reached(net)
        going = [number for number in list(self.ground.begun)[::-1] if number not in kept]
        self.runs.finish(going)
        self.last_going = (going, net)

    def _ask_not_ended(self):
        if self.has_ended:
            raise Ended()
