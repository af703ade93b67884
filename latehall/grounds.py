"""What stands in a hall: instances in their spaces, openings, walks and scopes."""

from latehall.meanings import meaning
from latehall.order import order_by
from latehall.things import is_whole
from latehall.walks import walk_by

# The main comes first of all, and its space is the first one.
MAIN = 0
MAIN_SPACE = 0


class Instance:
    """A library that came, in a space, with its needs."""

    def __init__(self, space, library, needs):
        self.space = space
        self.library = library
        # The main's needs have the names put ahead, so they aren't the library's always.
        self.needs = needs


class Ground:
    """What stands, what is held and what goes, by the instances' numbers; a store
    keeps what uses are bound to and what is in cells."""

    def __init__(self, shelf, early, faint, store):
        self.shelf = shelf
        self.early = early
        self.faint = faint
        self.store = store
        self.instances = {}
        self.places = {}
        # What an instance needs stands as long as it does, so it is sought once, as it comes.
        self.leads = {}
        # (count, shared) by numbers; a dict keeps the order in which they came to be held.
        self.openings = {}
        self.begun = {}
        self.going = {}
        self.next_number = MAIN
        self.next_space = MAIN_SPACE + 1

    def needs_in(self, space):
        """The needs of all names: of those that stand in a space their own, else the shelf's."""
        needs = {library[0]: library[1] for library in self.shelf}
        for instance in self.instances.values():
            if instance.space == space:
                needs[instance.library[0]] = instance.needs
        return needs

    def settle(self, space, walk, needs):
        """Instances of the names of a walk that don't stand; told are their numbers."""
        libraries = {library[0]: library for library in self.shelf}
        fresh = []
        for name in walk:
            if (space, name) not in self.places:
                self.instances[self.next_number] = Instance(space, libraries[name], needs[name])
                self.places[(space, name)] = self.next_number
                fresh.append(self.next_number)
                self.next_number += 1
        for number in fresh:
            self.leads[number] = [self.places[(space, need)] for need in self.instances[number].needs]
        return fresh

    def unsettle(self, fresh):
        """The last ones that were settled don't stand: as if they hadn't come."""
        self._take_from_places(fresh)
        self.next_number -= len(fresh)

    def lay(self, fresh, bound):
        """New instances get what is theirs in the store, with what is bound as they come."""
        self.store.lay({number: self.instances[number].library for number in fresh}, bound)

    def take_away(self, numbers):
        """Takes instances away that were begun, with all that is theirs."""
        self.store.take_away(numbers)
        self._take_from_places(numbers)
        for number in numbers:
            del self.begun[number]

    def count_up(self, number, shared):
        """An instance's opening is brought once more."""
        count, was_shared = self.openings.get(number, (0, False))
        self.openings[number] = (count + 1, was_shared or shared)

    def count_down(self, number):
        """An instance's opening is dropped once."""
        count, shared = self.openings[number]
        if count == 1:
            del self.openings[number]
        else:
            self.openings[number] = (count - 1, shared)

    def walk_from(self, number):
        """The walk of an instance."""
        return walk_by(number, self.leads)

    def order_from(self, number):
        """The order of beginnings of an instance."""
        return order_by(self.walk_from(number), self.leads)

    def list_of_all(self, space):
        """The list of all of a space: the main's walk, then those of what is shared."""
        starts = [MAIN] if space == MAIN_SPACE and MAIN in self.instances else []
        shared = [number for number in self.openings if self.openings[number][1]]
        starts.extend([number for number in shared if self.instances[number].space == space])
        met = {other: True for number in starts for other in self.walk_from(number)}
        return [number for number in met if number not in self.going]

    def scope_of(self, number):
        """The scope of an instance, as it is now."""
        instance = self.instances[number]
        scope = [number] if "own" in instance.library[6] else []
        scope.extend(self.list_of_all(instance.space))
        scope.extend(self.walk_from(number))
        return list({other: True for other in scope})

    def meant(self, numbers, use):
        """What a use means among instances: (instance, give), or None."""
        return self.meant_by(numbers, [self.instances[number].library for number in numbers], use)

    def meant_by(self, numbers, libraries, use):
        """What a use means where instances had these libraries: (instance, give), or None."""
        found = meaning(libraries, use, faint=self.faint)
        return None if found is None else (numbers[found[0]], found[1])

    def asked(self, space, name, word):
        """The first chosen give of a word in the walk of what stands under a
        name: (instance, give), or None."""
        if (space, name) not in self.places:
            return None
        for number in self.walk_from(self.places[(space, name)]):
            for at, give in enumerate(self.instances[number].library[2]):
                if give[0] == word and give[2]:
                    return (number, at)
        return None

    def is_cell(self, number, give):
        """Whether a give of an instance is a cell."""
        return is_whole(self.instances[number].library[2][give][4])

    def _take_from_places(self, numbers):
        for number in numbers:
            instance = self.instances[number]
            del self.places[(instance.space, instance.library[0])]
            del self.instances[number]
            del self.leads[number]
