"""Runs of rows: firsts, lasts, and the deeds that are called."""

from latehall.comings import come
from latehall.errors import NoLibrary, Unmet

MOST_ROWS = 60
MOST_DEEDS = 20


class Runs:
    """What does rows on a ground, and keeps what they tell."""

    def __init__(self, ground):
        self.ground = ground
        self.tellings = []
        # Each run has rows of its own, so this is kept aside while a run goes on within one;
        # the deeds under way are those of all runs at once.
        self.rows_left = 0
        self.deeds_under_way = 0

    def begin(self, number):
        """Begins all of an instance's walk that isn't begun."""
        for other in self.ground.order_from(number):
            # In a first a bring may have begun what stands behind in this order.
            if other not in self.ground.begun:
                self.ground.begun[other] = True
                self._run(other, self.ground.instances[other].library[4])

    def end(self, numbers):
        """Does the lasts of those that go, then they are gone."""
        self.ground.going = {number: True for number in numbers}
        for number in numbers:
            self._run(number, self.ground.instances[number].library[5])
        self.ground.take_away(numbers)
        self.ground.going = {}

    def call(self, means):
        """Does a deed, (instance, give), for a call from outside."""
        self.rows_left = MOST_ROWS
        self._deed(means)

    def _run(self, number, rows):
        outer = self.rows_left
        self.rows_left = MOST_ROWS
        self._rows(number, rows)
        self.rows_left = outer

    def _deed(self, means):
        number, give = means
        self.deeds_under_way += 1
        goes_on = self._rows(number, self.ground.instances[number].library[2][give][4])
        self.deeds_under_way -= 1
        return goes_on

    def _rows(self, number, rows):
        """Does rows of an instance; told is whether the run goes on behind them."""
        is_skipped = False
        for row in rows:
            if is_skipped:
                is_skipped = False
                continue
            if self.rows_left == 0:
                self._tell(number, "cut")
                return False
            self.rows_left -= 1
            if row[0] == "skip":
                is_skipped = self._cell(number, row[1]) == 0
            elif not self._row(number, row):
                return False
        return True

    def _row(self, number, row):
        """Does a row but a skip; told is whether the run goes on behind it."""
        word = row[0]
        if word == "call":
            return self._call(number, row[1])
        if word == "ask":
            return self._ask(number, row[1], row[2])
        if word == "tell":
            self._tell(number, row[1])
        elif word == "show":
            self._tell(number, self._cell(number, row[1]))
        elif word == "put":
            self._put(number, row[1], row[2])
        elif word == "add":
            self._put(number, row[1], self._cell(number, row[1]) + row[2])
        elif word == "drop":
            self._drop(number, row[1])
        else:
            self._bring(number, row[1], word == "share")
        return True

    def _tell(self, number, what):
        self.tellings.append((number, what))

    def _cell(self, number, use):
        giver, give = self.ground.instances[number].bound[use]
        return self.ground.instances[giver].cells[give]

    def _put(self, number, use, worth):
        giver, give = self.ground.instances[number].bound[use]
        self.ground.instances[giver].cells[give] = worth

    def _call(self, number, use):
        if self.deeds_under_way == MOST_DEEDS:
            self._tell(number, None)
            return True
        instance = self.ground.instances[number]
        if instance.bound[use] is None:
            instance.bound[use] = self.ground.meant(self.ground.scope_of(number), instance.library[3][use])
        if instance.bound[use] is None:
            self._tell(number, None)
            return True
        return self._deed(instance.bound[use])

    def _ask(self, number, name, word):
        means = self.ground.asked(self.ground.instances[number].space, name, word)
        if means is None:
            self._tell(number, None)
            return True
        giver, give = means
        cells = self.ground.instances[giver].cells
        if give in cells:
            self._tell(number, cells[give])
            return True
        if self.deeds_under_way == MOST_DEEDS:
            self._tell(number, None)
            return True
        return self._deed(means)

    def _bring(self, number, name, shared):
        if self.ground.going or self.deeds_under_way == MOST_DEEDS:
            self._tell(number, None)
            return
        try:
            brought = come(self.ground, self.ground.instances[number].space, name, shared=shared, early=False)
        except (NoLibrary, Unmet):
            self._tell(number, None)
            return
        self.begin(brought)

    def _drop(self, number, name):
        held = self.ground.places.get((self.ground.instances[number].space, name))
        if self.ground.going or held not in self.ground.openings:
            self._tell(number, None)
        else:
            self.ground.count_down(held)
