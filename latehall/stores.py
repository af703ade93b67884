"""Stores: what the uses of instances are bound to, and the numbers in their cells."""

from latehall.things import is_whole


class Store:
    """The store of a hall, by the instances' numbers."""

    def __init__(self):
        self.bound = {}
        self.cells = {}

    def lay(self, libraries, bound):
        """Takes in new instances' libraries, with (instance, use, meaning) of what is bound."""
        for number, library in libraries.items():
            self.bound[number] = [None] * len(library[3])
            self.cells[number] = {give: row[4] for give, row in enumerate(library[2]) if is_whole(row[4])}
        for number, use, means in bound:
            self.bind(number, use, means)

    def take_away(self, numbers):
        """Instances go, with their cells and what their uses mean."""
        for number in numbers:
            del self.bound[number]
            del self.cells[number]

    def bind(self, number, use, means):
        """A use of an instance means (instance, give) from now on."""
        self.bound[number][use] = means

    def bound_to(self, number, use):
        """What a use of an instance is bound to, or None."""
        return self.bound[number][use]

    def bound_of(self, number):
        """For each use of an instance what it is bound to, or None."""
        return list(self.bound[number])

    def cell(self, number, give):
        """The number in a cell."""
        return self.cells[number][give]

    def put(self, number, give, worth):
        """A cell gets a number."""
        self.cells[number][give] = worth

    def cells_of(self, number):
        """The numbers in the cells of an instance, by its gives' numbers."""
        return dict(self.cells[number])
