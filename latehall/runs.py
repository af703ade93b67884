"""Runs of rows: firsts, lasts, and the deeds that are called."""

from latehall.comings import come
from latehall.errors import NoLibrary, Unmet

MOST_ROWS = 60
MOST_DEEDS = 20


class Runs:
    """What does rows on a ground, and keeps what they tell."""

    def __init__(self, ground):
        self.ground = ground
        self.tellings = []
        # Each run has rows of its own, so this is kept aside while a run goes on within one;
        # the deeds under way are those of all runs at once.
        self.rows_left = 0
        self.deeds_under_way = 0

    def begin(self, number):
        """Begins all of an instance's walk that isn't begun."""
        for other in self.ground.order_from(number):
            # In a first a bring may have begun what stands behind in this order.
            if other not in self.ground.begun:
                self.ground.begun[other] = True
                self.run(other, self.first_of(other))

    def finish(self, numbers):
        """Does the lasts of those that go, then they are gone."""
        self.ground.going = {number: True for number in numbers}
        for number in numbers:
            self.run(number, self.last_of(number))
        self.ground.take_away(numbers)
        self.ground.going = {}

    def call(self, means):
        """Does a deed, (instance, give), for a call from outside."""
        self.rows_left = MOST_ROWS
        self.do_deed(means[0], self.deed_of(means))

    def run(self, number, rows):
        """Does rows of an instance as a run of their own."""
        outer = self.rows_left
        self.rows_left = MOST_ROWS
        self.do_rows(number, rows)
        self.rows_left = outer

    def first_of(self, number):
        """The rows that are done first."""
        return self.ground.instances[number].library[4]

    def last_of(self, number):
        """The rows that are done last."""
        return self.ground.instances[number].library[5]

    def deed_of(self, means):
        """The rows of a deed."""
        number, give = means
        return self.ground.instances[number].library[2][give][4]

    def do_deed(self, number, rows):
        """Does rows of an instance as a deed; told is whether the run goes on behind it."""
        self.deeds_under_way += 1
        goes_on = self.do_rows(number, rows)
        self.deeds_under_way -= 1
        return goes_on

    def do_rows(self, number, rows):
        """Does rows of an instance; told is whether the run goes on behind them."""
        is_skipped = False
        for row in rows:
            if is_skipped:
                is_skipped = False
            elif not self.goes_on(number):
                return False
            elif row[0] == "skip":
                is_skipped = self._cell(number, row[1]) == 0
            elif not self._row(number, row):
                return False
        return True

    def goes_on(self, number):
        """Whether the run goes on with one more row, of this instance."""
        if self.rows_left == 0:
            self.tell(number, "cut")
            return False
        self.rows_left -= 1
        return True

    def tell(self, number, what):
        """A row of an instance tells."""
        self.tellings.append((number, what))

    def meant(self, number, use):
        """What a deed's use means as it is called: bound from now on, where it isn't yet; or None."""
        means = self.ground.store.bound_to(number, use)
        if means is None:
            instance = self.ground.instances[number]
            means = self.ground.meant(self.ground.scope_of(number), instance.library[3][use])
            if means is not None:
                self.ground.store.bind(number, use, means)
        return means

    def ask(self, number, name, word):
        """Does an ask row; told is whether the run goes on behind it."""
        means = self.ground.asked(self.ground.instances[number].space, name, word)
        if means is None:
            self.tell(number, None)
            return True
        giver, give = means
        if self.ground.is_cell(giver, give):
            self.tell(number, self.ground.store.cell(giver, give))
            return True
        if self.deeds_under_way == MOST_DEEDS:
            self.tell(number, None)
            return True
        return self.do_deed(giver, self.deed_of(means))

    def bring(self, number, name, *, shared):
        """Does a bring row, or a share row."""
        brought = None
        if not self.ground.going and self.deeds_under_way < MOST_DEEDS:
            brought = self.brought(number, name, shared)
        if brought is None:
            self.tell(number, None)
        else:
            self.begin(brought)

    def brought(self, number, name, shared):
        """What comes by a row of an instance, not begun yet; None where it is refused."""
        try:
            return come(self.ground, self.ground.instances[number].space, name, shared=shared, early=False)
        except (NoLibrary, Unmet):
            return None

    def drop(self, number, name):
        """Does a drop row."""
        held = self.ground.places.get((self.ground.instances[number].space, name))
        if self.ground.going or held not in self.ground.openings:
            self.tell(number, None)
        else:
            self.ground.count_down(held)

    def _row(self, number, row):
        """Does a row but a skip; told is whether the run goes on behind it."""
        word = row[0]
        if word == "call":
            return self._call(number, row[1])
        if word == "ask":
            return self.ask(number, row[1], row[2])
        if word == "tell":
            self.tell(number, row[1])
        elif word == "show":
            self.tell(number, self._cell(number, row[1]))
        elif word == "put":
            self._put(number, row[1], row[2])
        elif word == "add":
            self._put(number, row[1], self._cell(number, row[1]) + row[2])
        elif word == "drop":
            self.drop(number, row[1])
        else:
            self.bring(number, row[1], shared=word == "share")
        return True

    def _cell(self, number, use):
        giver, give = self.ground.store.bound_to(number, use)
        return self.ground.store.cell(giver, give)

    def _put(self, number, use, worth):
        giver, give = self.ground.store.bound_to(number, use)
        self.ground.store.put(giver, give, worth)

    def _call(self, number, use):
        means = self.meant(number, use) if self.deeds_under_way < MOST_DEEDS else None
        if means is None:
            self.tell(number, None)
            return True
        return self.do_deed(means[0], self.deed_of(means))
