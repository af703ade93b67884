"""Shelves, libraries and calls by chance (of a told seed) for the tests."""

NAMES = "abcdefg"
WORDS = ["u", "v", "w"]
VERSIONS = ["", "", "k", "l"]


def some(chance, things, most):
    return tuple(chance.sample(things, chance.randint(0, min(most, len(things)))))


def use_by_chance(chance, strict):
    cell = chance.random() < 0.3
    return (chance.choice(WORDS), chance.choice(VERSIONS), cell, cell or chance.random() < strict)


def row_by_chance(chance, uses):
    cells = [at for at, use in enumerate(uses) if use[2]]
    deeds = [at for at, use in enumerate(uses) if not use[2]]
    words = ["tell", "bring", "share", "drop", "ask"] + ["show", "put", "add", "skip"] * bool(cells)
    words += ["call"] * (8 * bool(deeds))
    word = chance.choice(words)
    if word == "tell":
        return (word, chance.randint(-9, 9))
    if word in ("show", "skip"):
        return (word, chance.choice(cells))
    if word in ("put", "add"):
        return (word, chance.choice(cells), chance.randint(-1, 1))
    if word == "call":
        return (word, chance.choice(deeds))
    if word == "ask":
        return (word, chance.choice(NAMES), chance.choice(WORDS))
    return (word, chance.choice(NAMES))


def rows_by_chance(chance, uses, most):
    return tuple([row_by_chance(chance, uses) for _ in range(chance.randint(0, most))])


def gives_by_chance(chance, uses, most):
    gives = []
    for word in chance.sample(WORDS, chance.randint(1, len(WORDS))):
        versions = chance.sample(["", "k", "l"], chance.randint(1, 2))
        chosen = "" if "" in versions else chance.choice(versions + [None])
        for version in versions:
            what = chance.randint(-1, 2) if chance.random() < 0.4 else rows_by_chance(chance, uses, most)
            gives.append((word, version, version == chosen, chance.random() < 0.4, what))
    chance.shuffle(gives)
    return tuple(gives[:8])


def library_by_chance(chance, name, strict=0.3, most=4):
    uses = tuple([use_by_chance(chance, strict) for _ in range(chance.randint(0, 3))])
    needs = some(chance, [other for other in NAMES if other != name], chance.choice([1, 2, 2, 3]))
    marks = tuple([mark for mark in ("early", "own", "stays") if chance.random() < 0.15])
    return (name, needs, gives_by_chance(chance, uses, most), uses,
            rows_by_chance(chance, uses, most), rows_by_chance(chance, uses, most), marks)


def shelf_by_chance(chance, strict=0.3, most=4):
    names = chance.sample(NAMES, len(NAMES) - chance.choice([0, 0, 0, 1, 2]))
    return tuple([library_by_chance(chance, name, strict, most) for name in names])


def call_by_chance(chance, many):
    """A call of a hall in which so many instances came: its word and what is handed in."""
    word = chance.choice(["bring"] * 5 + ["drop"] * 3 + ["look", "call", "call", "call", "show", "shelve"])
    if word == "bring":
        truths = {key: chance.random() < 0.3 for key in ("shared", "early", "apart")}
        return (word, (chance.choice(NAMES),), truths)
    if word == "shelve":
        return (word, (library_by_chance(chance, chance.choice(NAMES)),), {})
    number = chance.randint(0, many)
    if word == "drop":
        return (word, (number,), {})
    further = {"version": chance.choice(VERSIONS)}
    if word == "look":
        further["cell"] = chance.random() < 0.5
    return (word, (number, chance.choice(WORDS)), further)


def history_call_by_chance(chance, many):
    """A call of a history, as point 25 writes it; instances' numbers below many, for the most part."""
    word, told, more = call_by_chance(chance, many)
    if word == "bring":
        return (word, *told, more["shared"], more["early"], more["apart"])
    if word == "look":
        return (word, *told, more["version"], more["cell"])
    if word in ("call", "show"):
        return (word, *told, more["version"])
    return (word, *told)


def history_by_chance(chance, most=30):
    """Calls, some of them behind an end."""
    calls = [history_call_by_chance(chance, chance.choice([3, 8, 20])) for _ in range(chance.randint(0, most))]
    if chance.random() < 0.4:
        calls.append(("end",))
        calls += [chance.choice([("end",), history_call_by_chance(chance, 6)]) for _ in range(chance.randint(0, 3))]
    return calls


def making_by_chance(chance):
    """A shelf, a main of it or none, and what else a hall is made with but early."""
    shelf = shelf_by_chance(chance, chance.choice([0, 0.3]), chance.choice([2, 4, 8]))
    main = chance.choice(NAMES)
    ahead = some(chance, [name for name in NAMES if name != main], 2)
    return shelf, main, {"ahead": ahead, "faint": chance.random() < 0.5}
