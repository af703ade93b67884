"""Shelves, libraries and calls by chance (of a told seed) for the tests."""

NAMES = "abcdefg"
WORDS = ["u", "v", "w"]
VERSIONS = ["", "", "k", "l"]


def some(chance, things, most):
    return tuple(chance.sample(things, chance.randint(0, min(most, len(things)))))


def use_by_chance(chance, strict):
    cell = chance.random() < 0.3
    return (chance.choice(WORDS), chance.choice(VERSIONS), cell, cell or chance.random() < strict)


def row_by_chance(chance, uses):
    cells = [at for at, use in enumerate(uses) if use[2]]
    deeds = [at for at, use in enumerate(uses) if not use[2]]
    words = ["tell", "bring", "share", "drop", "ask"] + ["show", "put", "add", "skip"] * bool(cells)
    words += ["call"] * (8 * bool(deeds))
    word = chance.choice(words)
    if word == "tell":
        return (word, chance.randint(-9, 9))
    if word in ("show", "skip"):
        return (word, chance.choice(cells))
    if word in ("put", "add"):
        return (word, chance.choice(cells), chance.randint(-1, 1))
    if word == "call":
        return (word, chance.choice(deeds))
    if word == "ask":
        return (word, chance.choice(NAMES), chance.choice(WORDS))
    return (word, chance.choice(NAMES))


def rows_by_chance(chance, uses, most):
    return tuple([row_by_chance(chance, uses) for _ in range(chance.randint(0, most))])


def gives_by_chance(chance, uses, most):
    gives = []
    for word in chance.sample(WORDS, chance.randint(1, len(WORDS))):
        versions = chance.sample(["", "k", "l"], chance.randint(1, 2))
        chosen = "" if "" in versions else chance.choice(versions + [None])
        for version in versions:
            what = chance.randint(-1, 2) if chance.random() < 0.4 else rows_by_chance(chance, uses, most)
            gives.append((word, version, version == chosen, chance.random() < 0.4, what))
    chance.shuffle(gives)
    return tuple(gives[:8])


def library_by_chance(chance, name, strict=0.3, most=4):
    uses = tuple([use_by_chance(chance, strict) for _ in range(chance.randint(0, 3))])
    needs = some(chance, [other for other in NAMES if other != name], chance.choice([1, 2, 2, 3]))
    marks = tuple([mark for mark in ("early", "own", "stays") if chance.random() < 0.15])
    return (name, needs, gives_by_chance(chance, uses, most), uses,
            rows_by_chance(chance, uses, most), rows_by_chance(chance, uses, most), marks)


def shelf_by_chance(chance, strict=0.3, most=4):
    names = chance.sample(NAMES, len(NAMES) - chance.choice([0, 0, 0, 1, 2]))
    return tuple([library_by_chance(chance, name, strict, most) for name in names])


def call_by_chance(chance, many):
    """A call of a hall in which so many instances came: its word and what is handed in."""
    word = chance.choice(["bring"] * 5 + ["drop"] * 3 + ["look", "call", "call", "call", "show", "shelve"])
    if word == "bring":
        truths = {key: chance.random() < 0.3 for key in ("shared", "early", "apart")}
        return (word, (chance.choice(NAMES),), truths)
    if word == "shelve":
        return (word, (library_by_chance(chance, chance.choice(NAMES)),), {})
    number = chance.randint(0, many)
    if word == "drop":
        return (word, (number,), {})
    further = {"version": chance.choice(VERSIONS)}
    if word == "look":
        further["cell"] = chance.random() < 0.5
    return (word, (number, chance.choice(WORDS)), further)
