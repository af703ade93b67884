"""Machines: what does rows by the numbers at addresses."""

from latehall.images import END, STEP, STUB, WORDS, name_of
from latehall.runs import MOST_DEEDS, Runs


class Machine(Runs):
    """Runs of the numbers in a memory: rows are told by the address of their first number."""

    def __init__(self, ground):
        super().__init__(ground)
        self.memory = ground.store

    def first_of(self, number):
        """Where the rows begin that are done first."""
        return self.memory.lots[number].first

    def last_of(self, number):
        """Where the rows begin that are done last."""
        return self.memory.lots[number].last

    def deed_of(self, means):
        """Where the rows of a deed begin."""
        return self.memory.address_of(means)

    def do_rows(self, number, rows):
        """Does the rows from an address on, within an instance's image; told is
        whether the run goes on behind them."""
        numbers = self.memory.numbers
        address = rows
        while numbers[address] != END:
            if not self.goes_on(number):
                return False
            word, one, other = [numbers[address + at] for at in range(STEP)]
            address += STEP
            if WORDS[word] != "skip":
                if not self._do(number, WORDS[word], one, other):
                    return False
            elif numbers[numbers[one]] == 0 and numbers[address] != END:
                address += STEP
        return True

    def _do(self, number, word, one, other):
        """Does a row but a skip; told is whether the run goes on behind it."""
        numbers = self.memory.numbers
        if word == "call":
            return self._go_to(number, one)
        if word == "ask":
            return self.ask(number, name_of(one), name_of(other))
        if word == "tell":
            self.tell(number, one)
        elif word == "show":
            self.tell(number, numbers[numbers[one]])
        elif word == "put":
            numbers[numbers[one]] = other
        elif word == "add":
            numbers[numbers[one]] += other
        elif word == "drop":
            self.drop(number, name_of(one))
        else:
            self.bring(number, name_of(one), shared=word == "share")
        return True

    def _go_to(self, number, slot):
        """Goes on at the address that a slot bears."""
        if self.deeds_under_way == MOST_DEEDS:
            self.tell(number, None)
            return True
        numbers = self.memory.numbers
        stub = numbers[slot]
        if numbers[stub] == STUB and self.meant(number, numbers[stub + 1]) is None:
            self.tell(number, None)
            return True
        # A stub that found a meaning has put the deed's address into the slot.
        address = numbers[slot]
        return self.do_deed(self.memory.owners[address], address)
