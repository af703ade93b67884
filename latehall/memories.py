"""Memories: images laid in a room, whose numbers tell what uses are bound to and what is in cells."""

from latehall.errors import Vacant
from latehall.images import begins, filled, image
from latehall.rooms import Room


class Lot:
    """Where the image of an instance lies, and what begins at which address."""

    def __init__(self, library, base, length):
        cells, deeds, first, last = begins(library)
        self.base = base
        self.length = length
        self.uses = len(library[3])
        self.cells = {give: base + at for give, at in cells.items()}
        self.deeds = {give: base + at for give, at in deeds.items()}
        self.first = base + first
        self.last = base + last
        self.gives = {base + at: give for give, at in list(cells.items()) + list(deeds.items())}


class Memory:
    """The store of a plant: numbers by addresses, and nothing else but where they lie."""

    def __init__(self, pad):
        self.room = Room()
        if pad > 0:
            self.room.take(pad)
        self.lots = {}
        self.numbers = {}
        # Whose image lies at an address.
        self.owners = {}

    def lay(self, libraries, bound):
        """Lays new instances' images, with (instance, use, meaning) of what is bound."""
        images = {number: image(libraries[number]) for number in sorted(libraries)}
        for number in images:
            length = len(images[number][0])
            self.lots[number] = Lot(libraries[number], self.room.take(length), length)
        for number in images:
            self._fill(number, images[number], {use: means for one, use, means in bound if one == number})
        for number, use, means in bound:
            self.bind(number, use, means)

    def take_away(self, numbers):
        """Instances go, and their stretches are given back."""
        for number in sorted(numbers):
            lot = self.lots[number]
            self.room.give_back(lot.base)
            for address in range(lot.base, lot.base + lot.length):
                del self.numbers[address]
                del self.owners[address]
            del self.lots[number]

    def bind(self, number, use, means):
        """A use of an instance means (instance, give) from now on: its slot bears the address."""
        self.numbers[self.slot_of(number, use)] = self.address_of(means)

    def bound_to(self, number, use):
        """What a use of an instance is bound to, or None."""
        address = self.numbers[self.slot_of(number, use)]
        giver = self.owners[address]
        # A stub is no give's.
        if address not in self.lots[giver].gives:
            return None
        return (giver, self.lots[giver].gives[address])

    def bound_of(self, number):
        """For each use of an instance what it is bound to, or None."""
        return [self.bound_to(number, use) for use in range(self.lots[number].uses)]

    def cell(self, number, give):
        """The number in a cell."""
        return self.numbers[self.lots[number].cells[give]]

    def cells_of(self, number):
        """The numbers in the cells of an instance, by its gives' numbers."""
        return {give: self.numbers[address] for give, address in self.lots[number].cells.items()}

    def slot_of(self, number, use):
        """The address of a use's slot."""
        return self.lots[number].base + use

    def address_of(self, means):
        """Where a give, (instance, give), begins."""
        number, give = means
        lot = self.lots[number]
        return lot.cells[give] if give in lot.cells else lot.deeds[give]

    def images(self):
        """The images that lie: (base, length, instance), rising."""
        return sorted([(self.lots[number].base, self.lots[number].length, number) for number in self.lots])

    def number_at(self, address):
        """The number at an address; Vacant where no image lies."""
        if address not in self.numbers:
            raise Vacant(address)
        return self.numbers[address]

    def _fill(self, number, laid, means):
        lot = self.lots[number]
        addresses = {use: self.address_of(means[use]) for use in means}
        for at, worth in enumerate(filled(laid, lot.base, addresses)):
            self.numbers[lot.base + at] = worth
            self.owners[lot.base + at] = number
