"""What the plain reader has: a state, and walks and scopes made anew of it each time."""

from latehall.errors import Closed, Ended, Unmet
from latehall.grounds import MAIN, MAIN_SPACE
from latehall.meanings import meaning
from latehall.order import order_by
from latehall.things import is_whole
from latehall.walks import needs_of, walk_by


class Reading:
    """A state as it goes on within a call; between two calls a state is all."""

    def __init__(self, state):
        self.shelf, self.early, self.faint, self.ahead = state[:4]
        openings, standing, bound, cells, coming = state[4:]
        self.openings = list(openings)
        self.standing = list(standing)
        self.bound = {(number, use): (giver, give) for number, use, giver, give in bound}
        self.cells = {(number, give): worth for number, give, worth in cells}
        self.next_number, self.next_space = coming
        # No part of the state: of what came by this call and isn't begun rows as those
        # of what stands, and the numbers of what goes by it.
        self.unbegun = []
        self.going = []

    def state(self):
        """The state as it is now."""
        return (self.shelf, self.early, self.faint, self.ahead, tuple(self.openings), tuple(self.standing),
                tuple([(*key, *self.bound[key]) for key in sorted(self.bound)]),
                tuple([(*key, self.cells[key]) for key in sorted(self.cells)]),
                (self.next_number, self.next_space))

    def ask_not_ended(self):
        """Refuses what an end refuses; Ended."""
        # The main stands up to the end, so nothing more need be kept to know it.
        if MAIN not in [row[0] for row in self._rows()]:
            raise Ended()

    def ask_held(self, number):
        """Refuses a number, any thing, under which nothing is held; Closed."""
        if not is_whole(number) or number not in self.held_numbers():
            raise Closed()

    def held_numbers(self):
        """The numbers of what is held."""
        return [number for number, _, _ in self.openings]

    def space_of(self, number):
        """The space of an instance."""
        return self._row(number)[1]

    def library_of(self, number):
        """The library of an instance."""
        return self._row(number)[2]

    def numbers_in(self, space):
        """The numbers of what stands in a space, by names."""
        return {library[0]: number for number, at, library in self._rows() if at == space}

    def walk_of_instance(self, number):
        """The walk of an instance."""
        return walk_by(number, self._leads(self.space_of(number)))

    def order_of_instance(self, number):
        """The order of beginnings of an instance."""
        leads = self._leads(self.space_of(number))
        return order_by(walk_by(number, leads), leads)

    def needed_by(self, number):
        """The instances that an instance needs."""
        return self._leads(self.space_of(number))[number]

    def scope(self, number):
        """The scope of an instance."""
        _, space, library = self._row(number)
        leads = self._leads(space)
        starts = [MAIN] if space == MAIN_SPACE else []
        starts.extend([one for one, _, shared in self.openings if shared and one in leads])
        met = [other for one in starts for other in walk_by(one, leads) if other not in self.going]
        own = [number] if "own" in library[6] else []
        return list({other: True for other in [*own, *met, *walk_by(number, leads)]})

    def meant(self, numbers, use):
        """What a use means among instances: (instance, give), or None."""
        found = meaning([self.library_of(number) for number in numbers], use, faint=self.faint)
        return None if found is None else (numbers[found[0]], found[1])

    def come_as_main(self, main):
        """The main comes; NoLibrary, Unmet."""
        fresh = self._settle(MAIN_SPACE, walk_by(main, needs_of(self.shelf, main, self.ahead)))
        self._bind(fresh, self._bound_at_once(fresh, False))

    def come(self, space, name, *, shared, early):
        """A library is brought; told is its instance's number; NoLibrary, Unmet."""
        walk = walk_by(name, self._needs_by_names(space))
        before = (self.openings, self.unbegun, self.next_number)
        fresh = self._settle(space, walk)
        number = self.numbers_in(space)[name]
        self._count_up(number, shared)
        try:
            bound = self._bound_at_once(fresh, early)
        except Unmet:
            self.openings, self.unbegun, self.next_number = before
            raise
        self._bind(fresh, bound)
        return number

    def count_down(self, number):
        """An opening is dropped once."""
        counted = [(one, count - 1 if one == number else count, shared) for one, count, shared in self.openings]
        self.openings = [opening for opening in counted if opening[1] > 0]

    def take_away(self, numbers):
        """Instances go, with their cells and what their uses mean."""
        self.standing = [row for row in self.standing if row[0] not in numbers]
        self.bound = {key: self.bound[key] for key in self.bound if key[0] not in numbers}
        self.cells = {key: self.cells[key] for key in self.cells if key[0] not in numbers}

    def _rows(self):
        return self.standing + self.unbegun

    def _row(self, number):
        return [row for row in self._rows() if row[0] == number][0]

    def _needs(self, number, library):
        if number != MAIN:
            return library[1]
        return (*self.ahead, *[need for need in library[1] if need not in self.ahead])

    def _leads(self, space):
        numbers = self.numbers_in(space)
        return {number: [numbers[need] for need in self._needs(number, library)]
                for number, at, library in self._rows() if at == space}

    def _needs_by_names(self, space):
        needs = {library[0]: library[1] for library in self.shelf}
        for number, at, library in self._rows():
            if at == space:
                needs[library[0]] = self._needs(number, library)
        return needs

    def _settle(self, space, walk):
        numbers = self.numbers_in(space)
        libraries = {library[0]: library for library in self.shelf}
        lacking = [libraries[name] for name in walk if name not in numbers]
        rows = [(self.next_number + at, space, library) for at, library in enumerate(lacking)]
        self.unbegun = self.unbegun + rows
        self.next_number = self.next_number + len(rows)
        return [row[0] for row in rows]

    def _count_up(self, number, shared):
        if number not in self.held_numbers():
            self.openings = [*self.openings, (number, 0, False)]
        self.openings = [(one, count + 1, was_shared or shared) if one == number else (one, count, was_shared)
                         for one, count, was_shared in self.openings]

    def _bound_at_once(self, fresh, early):
        bound = []
        for number in fresh:
            library = self.library_of(number)
            is_early = early or self.early or "early" in library[6]
            for at, use in enumerate(library[3]):
                means = self.meant(self.scope(number), use) if use[2] or is_early else None
                if means is not None:
                    bound.append((number, at, means))
                elif use[3] and (use[2] or is_early):
                    raise Unmet(library[0], use[0])
        return bound

    def _bind(self, fresh, bound):
        for number in fresh:
            for give, row in enumerate(self.library_of(number)[2]):
                if is_whole(row[4]):
                    self.cells[(number, give)] = row[4]
        for number, use, means in bound:
            self.bound[(number, use)] = means
