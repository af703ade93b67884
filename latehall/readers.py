"""The plain reader's rows and calls, on a state that it reads anew at each of them."""

from latehall.errors import NoLibrary, NoWord, Unmet
from latehall.grounds import MAIN, MAIN_SPACE
from latehall.nets import reached
from latehall.readings import Reading
from latehall.runs import MOST_DEEDS, MOST_ROWS
from latehall.shelving import shelved


class Cut(Exception):
    """A run ends ahead of one row too many."""


class Reader(Reading):
    """A plain reader of one call, with a hall's calls, instances told by their numbers."""

    def __init__(self, state):
        super().__init__(state)
        self.tellings = []
        self.rows_left = 0
        self.deeds_under_way = 0

    def make(self, main):
        """The main comes and begins; told is its number; NoLibrary, Unmet."""
        self.come_as_main(main)
        self._begin(MAIN)
        self._let_go(self._roots())
        return MAIN

    def bring(self, name, *, shared, early, apart):
        """Brings a library; told is its instance's number; Ended, NoLibrary, Unmet."""
        self.ask_not_ended()
        number = self.come(self.next_space if apart else MAIN_SPACE, name, shared=shared, early=early)
        if apart:
            self.next_space = self.next_space + 1
        self._begin(number)
        self._let_go(self._roots())
        return number

    def drop(self, number):
        """Drops an opening once; Closed."""
        self.ask_held(number)
        self.count_down(number)
        self._let_go(self._roots())

    def look(self, number, word, *, version, cell):
        """What a use means in the walk of what is held; Closed."""
        self.ask_held(number)
        return self.meant(self.walk_of_instance(number), (word, version, cell, True))

    def call(self, number, word, *, version):
        """Does the deed that a word means from what is held; Closed, NoWord."""
        means = self.look(number, word, version=version, cell=False)
        if means is None:
            raise NoWord(word)
        self.deeds_under_way = 1
        self._run(means[0], self._deed_rows(means))
        self._let_go(self._roots())

    def show(self, number, word, *, version):
        """The number in the cell that a word means from what is held; Closed, NoWord."""
        means = self.look(number, word, version=version, cell=True)
        if means is None:
            raise NoWord(word)
        return self.cells[means]

    def shelve(self, library):
        """Puts a library on the shelf; Full."""
        self.shelf = shelved(self.shelf, library)

    def end(self):
        """All that stands goes; Ended."""
        self.ask_not_ended()
        self.openings = []
        self._let_go([])

    def _roots(self):
        kept = [MAIN, *self.held_numbers()]
        return sorted([number for number, _, library in self.standing if number in kept or "stays" in library[6]])

    def _let_go(self, roots):
        """What no way leads to from the roots goes, each behind its last."""
        needed = [(number, other) for number, _, _ in self.standing for other in self.needed_by(number)]
        meant = [(key[0], self.bound[key][0]) for key in self.bound]
        kept = reached((self.next_number, roots, needed + meant))
        self.going = [row[0] for row in self.standing[::-1] if row[0] not in kept]
        # None is under way behind a call's own runs, whatever ended them.
        self.deeds_under_way = 0
        for number in list(self.going):
            self._run(number, self.library_of(number)[5])
        self.take_away(self.going)

    def _begin(self, number):
        for other in self.order_of_instance(number):
            # In a first a bring may have begun what stands behind in this order.
            begun = [row for row in self.unbegun if row[0] == other]
            if begun:
                self.unbegun = [row for row in self.unbegun if row[0] != other]
                self.standing.append(begun[0])
                self._run(other, self.library_of(other)[4])

    def _run(self, number, rows):
        outer_rows, outer_deeds = self.rows_left, self.deeds_under_way
        self.rows_left = MOST_ROWS
        try:
            self._rows_done(number, rows)
        except Cut:
            # The deeds of the run end with it.
            self.deeds_under_way = outer_deeds
        self.rows_left = outer_rows

    def _rows_done(self, number, rows):
        at = 0
        while at < len(rows):
            if self.rows_left == 0:
                self._tell(number, "cut")
                raise Cut()
            self.rows_left = self.rows_left - 1
            row = rows[at]
            at += 1
            if row[0] != "skip":
                self._row_done(number, row)
            elif self._cell(number, row[1]) == 0:
                at += 1

    def _row_done(self, number, row):
        word, one = row[:2]
        if word == "tell":
            self._tell(number, one)
        elif word == "show":
            self._tell(number, self._cell(number, one))
        elif word == "put":
            self.cells[self.bound[(number, one)]] = row[2]
        elif word == "add":
            self.cells[self.bound[(number, one)]] = self._cell(number, one) + row[2]
        elif word == "call":
            self._deed_called(number, one)
        elif word == "ask":
            self._asked(number, one, row[2])
        elif word == "drop":
            self._dropped(number, one)
        else:
            self._brought(number, one, word == "share")

    def _tell(self, number, what):
        self.tellings.append((number, what))

    def _cell(self, number, use):
        return self.cells[self.bound[(number, use)]]

    def _deed_rows(self, means):
        number, give = means
        return self.library_of(number)[2][give][4]

    def _deed_called(self, number, use):
        if self.deeds_under_way == MOST_DEEDS:
            self._tell(number, None)
            return
        if (number, use) not in self.bound:
            means = self.meant(self.scope(number), self.library_of(number)[3][use])
            if means is None:
                self._tell(number, None)
                return
            self.bound[(number, use)] = means
        self._deed_done(self.bound[(number, use)])

    def _deed_done(self, means):
        self.deeds_under_way = self.deeds_under_way + 1
        self._rows_done(means[0], self._deed_rows(means))
        self.deeds_under_way = self.deeds_under_way - 1

    def _asked(self, number, name, word):
        found = self._chosen_gives(self.space_of(number), name, word)
        if found and found[0] in self.cells:
            self._tell(number, self.cells[found[0]])
        elif found and self.deeds_under_way < MOST_DEEDS:
            self._deed_done(found[0])
        else:
            self._tell(number, None)

    def _chosen_gives(self, space, name, word):
        numbers = self.numbers_in(space)
        walk = self.walk_of_instance(numbers[name]) if name in numbers else []
        return [(number, at) for number in walk
                for at, give in enumerate(self.library_of(number)[2]) if give[0] == word and give[2]]

    def _brought(self, number, name, shared):
        if self.going or self.deeds_under_way == MOST_DEEDS:
            self._tell(number, None)
            return
        try:
            brought = self.come(self.space_of(number), name, shared=shared, early=False)
        except (NoLibrary, Unmet):
            self._tell(number, None)
            return
        self._begin(brought)

    def _dropped(self, number, name):
        held = self.numbers_in(self.space_of(number)).get(name)
        if self.going or held not in self.held_numbers():
            self._tell(number, None)
        else:
            self.count_down(held)
