"""A plain reader of halls for the tests: it keeps a state alone, and reckons all
walks, orders and scopes anew, from the names, each time that it needs them."""

import itertools

ROWS = 60
DEEDS = 20


class Cut(Exception):
    """A run has ended ahead of its sixty-first row."""


class No(Exception):
    """A refusal: its name, then its fields."""


def bfs(start, needs_of):
    walk = [start]
    for name in walk:
        needs = needs_of(name)
        if needs is None:
            raise No("NoLibrary", name)
        walk += [need for need in needs if need not in walk]
    return walk


def order(walk, needs_of):
    """The order of beginnings, by all the ways at once."""
    far = {(a, b): a == b or b in needs_of(a) for a in walk for b in walk}
    for c, a, b in itertools.product(walk, repeat=3):
        far[a, b] = far[a, b] or far[a, c] and far[c, b]
    told = []
    while len(told) < len(walk):
        for name in walk:
            part = [other for other in walk if far[name, other] and far[other, name]]
            lacks = [other for one in part for other in needs_of(one) if other not in part and other not in told]
            if name not in told and not lacks:
                told += part
                break
    return told


class Reader:
    def __init__(self, shelf, main, ahead=(), early=False, faint=False):
        self.shelf, self.main, self.ahead, self.early, self.faint = list(shelf), main, ahead, early, faint
        self.openings = []  # [instance, count, shared]
        self.standing = []  # (instance, space, library), by when they came
        self.begun = []
        self.bound = {}
        self.cells = {}
        self.number, self.space = 0, 1
        self.told = []
        self.lasting, self.ended, self.going = False, False, []
        self.rows, self.deeds = [], 0
        self.begin(self.come(0, main, False, False, False))
        self.settle()

    def note(self, *doing):
        """What hangs on meanings is done; a test that asks for it has a reader of its own."""

    # What stands.

    def library(self, number):
        return [library for one, space, library in self.standing if one == number][0]

    def space_of(self, number):
        return [space for one, space, library in self.standing if one == number][0]

    def find(self, space, name):
        found = [one for one, at, library in self.standing if (at, library[0]) == (space, name)]
        return found[0] if found else None

    def needs(self, number, library):
        if number == 0:
            return list(self.ahead) + [need for need in library[1] if need not in self.ahead]
        return list(library[1])

    def needs_of(self, space):
        def told(name):
            number = self.find(space, name)
            if number is not None:
                return self.needs(number, self.library(number))
            found = [library for library in self.shelf if library[0] == name]
            if not found:
                return None
            # The library that comes first of all, under this name, is the main.
            return self.needs(0 if (self.number, name) == (0, self.main) else None, found[0])
        return told

    def names_walk(self, space, name):
        return bfs(name, self.needs_of(space))

    def walk(self, number):
        space = self.space_of(number)
        return [self.find(space, name) for name in self.names_walk(space, self.library(number)[0])]

    def all_of(self, space):
        told = self.walk(0) if space == 0 and self.stands(0) else []
        for number, _, shared in self.openings:
            if shared and self.space_of(number) == space:
                told = told + self.walk(number)
        return self.once([one for one in told if one not in self.going])

    def stands(self, number):
        return number in [one for one, _, _ in self.standing]

    def scope(self, number):
        own = [number] if "own" in self.library(number)[6] else []
        return self.once(own + self.all_of(self.space_of(number)) + self.walk(number))

    @staticmethod
    def once(numbers):
        return [one for at, one in enumerate(numbers) if one not in numbers[:at]]

    def meant(self, numbers, use, gives_of=None):
        weak = None
        for number in numbers:
            library = self.library(number)
            gives = gives_of[2] if gives_of and gives_of[0] == library[0] else library[2]
            for at, (word, version, chosen, faint, what) in enumerate(gives):
                if word != use[0] or isinstance(what, tuple) == use[2]:
                    continue
                if not (version == use[1] or version == "" or use[1] == "" and chosen):
                    continue
                if not (self.faint and faint):
                    return (number, at)
                weak = weak or (number, at)
        return weak

    # Coming.

    def opening(self, number):
        found = [opening for opening in self.openings if opening[0] == number]
        return found[0] if found else None

    def come(self, space, name, counts, shared, early):
        ahead = (self.standing[:], [one[:] for one in self.openings], dict(self.bound), dict(self.cells), self.number)
        try:
            for one in self.names_walk(space, name):
                if self.find(space, one) is None:
                    library = [other for other in self.shelf if other[0] == one][0]
                    self.standing.append((self.number, space, library))
                    for at, give in enumerate(library[2]):
                        if not isinstance(give[4], tuple):
                            self.cells[self.number, at] = give[4]
                    self.number += 1
            number = self.find(space, name)
            if counts:
                if self.opening(number) is None:
                    self.openings.append([number, 0, False])
                self.opening(number)[1] += 1
                self.opening(number)[2] |= shared
            for one in range(ahead[4], self.number):
                self.bind_all(one, early)
        except No:
            self.standing, self.openings, self.bound, self.cells, self.number = ahead
            raise
        return number

    def bind_all(self, number, early):
        library = self.library(number)
        for at, use in enumerate(library[3]):
            if use[2] or self.early or early or "early" in library[6]:
                found = self.meant(self.scope(number), use)
                if found is not None:
                    self.bound[number, at] = found
                elif use[3]:
                    raise No("Unmet", library[0], use[0])

    def begin(self, number):
        space = self.space_of(number)
        for name in order(self.names_walk(space, self.library(number)[0]), self.needs_of(space)):
            one = self.find(space, name)
            if one not in self.begun:
                self.begun.append(one)
                self.run(one, self.library(one)[4])

    # Rows.

    def run(self, number, rows, deeds=0):
        outer, ahead = self.rows, self.deeds
        self.rows, self.deeds = [], self.deeds + deeds
        try:
            self.do(number, rows)
        except Cut:
            pass
        self.rows, self.deeds = outer, ahead

    def do(self, number, rows):
        at = 0
        while at < len(rows):
            if len(self.rows) == ROWS:
                self.told.append((number, "cut"))
                raise Cut()
            self.rows.append(rows[at])
            at += 1
            if self.row(number, *rows[at - 1]) == "skip":
                at += 1

    def row(self, number, word, *parts):
        space = self.space_of(number)
        say = lambda what: self.told.append((number, what))
        if word == "tell":
            say(parts[0])
        elif word in ("show", "put", "add", "skip"):
            cell = self.bound[number, parts[0]]
            if word == "show":
                say(self.cells[cell])
            elif word == "put":
                self.cells[cell] = parts[1]
            elif word == "add":
                self.cells[cell] += parts[1]
            elif self.cells[cell] == 0:
                return "skip"
        elif word == "call":
            if self.deeds == DEEDS:
                return say(None)
            found = self.bound.get((number, parts[0]))
            found = found or self.meant(self.scope(number), self.library(number)[3][parts[0]])
            self.note("use", number, parts[0], found)
            if found is None:
                return say(None)
            self.bound[number, parts[0]] = found
            self.deed(*found)
        elif word == "ask":
            self.ask(number, self.find(space, parts[0]), parts[1], say)
        elif word == "drop":
            held = self.find(space, parts[0])
            if self.lasting or self.opening(held) is None:
                return say(None)
            self.lose(held)
        elif self.lasting or self.deeds == DEEDS:
            say(None)
        else:
            try:
                brought = self.come(space, parts[0], True, word == "share", False)
            except No:
                self.note("row", number, parts[0], False)
                return say(None)
            self.note("row", number, parts[0], True)
            self.begin(brought)

    def ask(self, number, asked, word, say):
        for one in [] if asked is None else self.walk(asked):
            for at, give in enumerate(self.library(one)[2]):
                if give[0] == word and give[2]:
                    if not isinstance(give[4], tuple):
                        return say(self.cells[one, at])
                    return say(None) if self.deeds == DEEDS else self.deed(one, at)
        say(None)

    def deed(self, number, give):
        self.deeds += 1
        self.do(number, self.library(number)[2][give][4])
        self.deeds -= 1

    def lose(self, number):
        self.opening(number)[1] -= 1
        self.openings = [opening for opening in self.openings if opening[1] > 0]

    # Calls.

    def held(self, number):
        if self.opening(number) is None:
            raise No("Closed")

    def bring(self, name, shared=False, early=False, apart=False):
        if self.ended:
            raise No("Ended")
        number = self.come(self.space if apart else 0, name, True, shared, early)
        self.space += apart
        self.begin(number)
        self.settle()
        return number

    def drop(self, number):
        self.held(number)
        self.lose(number)
        self.settle()

    def look(self, number, word, version="", cell=False):
        self.held(number)
        return self.meant(self.walk(number), (word, version, cell, True))

    def call(self, number, word, version=""):
        found = self.look(number, word, version)
        if found is None:
            raise No("NoWord", word)
        self.run(found[0], self.library(found[0])[2][found[1]][4], 1)
        self.settle()

    def show(self, number, word, version=""):
        found = self.look(number, word, version, True)
        if found is None:
            raise No("NoWord", word)
        return self.cells[found]

    def shelve(self, library):
        names = [other[0] for other in self.shelf]
        if library[0] in names:
            self.shelf[names.index(library[0])] = library
        elif len(names) == 12:
            raise No("Full")
        else:
            self.shelf.append(library)

    def end(self):
        if self.ended:
            raise No("Ended")
        self.ended, self.openings = True, []
        self.settle()

    # Kept and gone.

    def roots(self):
        if self.ended:
            return []
        held = [opening[0] for opening in self.openings]
        return [one for one, _, library in self.standing if one == 0 or one in held or "stays" in library[6]]

    def leads(self):
        told = [(one, self.find(space, need)) for one, space, library in self.standing
                for need in self.needs(one, library)]
        return sorted(set(told + [(one, found[0]) for (one, _), found in self.bound.items()]))

    def net(self):
        return (self.number, sorted(self.roots()), self.leads())

    def settle(self):
        net = self.net()
        kept, more = [], net[1]
        while more:
            kept = kept + more
            more = sorted({other for one, other in net[2] if one in kept and other not in kept})
        self.going = [one for one in reversed(self.begun) if one not in kept]
        self.note("gone", *sorted(self.going))
        self.lasting = True
        for one in self.going:
            self.run(one, self.library(one)[5])
        self.lasting = False
        self.gone = (self.going, net)
        self.standing = [row for row in self.standing if row[0] not in self.going]
        self.begun = [one for one in self.begun if one not in self.going]
        self.bound = {key: found for key, found in self.bound.items() if key[0] not in self.going}
        self.cells = {key: number for key, number in self.cells.items() if key[0] not in self.going}
        self.going = []

    def state(self):
        rows = {row[0]: row for row in self.standing}
        return (tuple(self.shelf), self.early, self.faint, self.ahead,
                tuple([tuple(opening) for opening in self.openings]),
                tuple([rows[one] for one in self.begun]),
                tuple([(*key, *self.bound[key]) for key in sorted(self.bound)]),
                tuple([(*key, self.cells[key]) for key in sorted(self.cells)]),
                (self.number, self.space))

    def turned_by(self, library):
        told = []
        for key in sorted(self.bound):
            found = self.meant(self.scope(key[0]), self.library(key[0])[3][key[1]], library)
            if found != self.bound[key]:
                told.append((*key, found))
        return told
