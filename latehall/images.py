"""Images: a library's uses, cells and rows as numbers, laid one behind another from 0."""

from latehall.libraries import ROW_PARTS
from latehall.things import LETTERS, is_whole

# What the first of three numbers tells, by its place here: a row's word, or one of these two.
WORDS = ("end", "tell", "show", "put", "add", "call", "bring", "share", "drop", "ask", "stub", "skip")
END = 0
STUB = 10
# How many numbers a row has, and so a stub, or an end.
STEP = 3

# By base 36 a letter counts as much as its place behind the ten figures.
BASE = 36
FIRST_LETTER = 10


def name_number(name):
    """The number of a name."""
    number = 0
    for letter in name:
        number = BASE * number + LETTERS.index(letter) + FIRST_LETTER
    return number


def name_of(number):
    """The name that has a number, or None."""
    # No name has more than eight letters.
    if not FIRST_LETTER <= number < BASE ** 8:
        return None
    letters = []
    while number > 0:
        number, worth = divmod(number, BASE)
        if worth < FIRST_LETTER:
            return None
        letters.append(LETTERS[worth - FIRST_LETTER])
    return "".join(letters[::-1])


def image(library):
    """The image of a library: (numbers, places)."""
    uses = library[3]
    stubs = _places_of_stubs(library)
    numbers = [stubs.get(use, 0) for use in range(len(uses))]
    places = [(use, "cell" if row[2] else "own", use if row[2] else stubs[use]) for use, row in enumerate(uses)]
    numbers.extend([give[4] for give in library[2] if is_whole(give[4])])
    for use in stubs:
        numbers.extend([STUB, use, 0])
    for rows in _all_rows(library):
        for row in rows:
            laid = _laid_row(row)
            # The number of a use is the place of its slot.
            if ROW_PARTS[row[0]][0] in ("cell", "deed"):
                places.append((len(numbers) + 1, "own", laid[1]))
            numbers.extend(laid)
        numbers.extend([END, 0, 0])
    return (tuple(numbers), places)


def begins(library):
    """Where in the image cells, deeds, first and last begin: (cells, deeds, first, last)."""
    gives = library[2]
    in_cells = [give for give, row in enumerate(gives) if is_whole(row[4])]
    cells = {give: len(library[3]) + at for at, give in enumerate(in_cells)}
    stubs = _places_of_stubs(library)
    at = len(library[3]) + len(cells) + STEP * len(stubs)
    starts = []
    for rows in _all_rows(library):
        starts.append(at)
        at += STEP * (len(rows) + 1)
    in_deeds = [give for give in range(len(gives)) if give not in cells]
    return (cells, dict(zip(in_deeds, starts)), starts[-2], starts[-1])


def filled(image, base, addresses):
    """An image as it lies from a base on, with addresses for its cells' uses."""
    numbers, places = image
    lies = list(numbers)
    for at, kind, k in places:
        lies[at] = base + k if kind == "own" else addresses[k]
    return lies


def wrong_place(library, base, thing):
    """The least place at which a thing isn't the filled image of a library at a
    base; None where it is, -1 where it is no list of as many whole numbers."""
    laid = image(library)
    if not isinstance(thing, list) or len(thing) != len(laid[0]):
        return -1
    if not all([is_whole(number) for number in thing]):
        return -1
    slots = len(library[3])
    # Slots and cells, which come first, may bear any numbers.
    free = slots + len(begins(library)[0])
    lies = filled(laid, base, {use: 0 for use in range(slots)})
    wrong = [at for at in range(free, len(lies)) if thing[at] != lies[at]]
    return wrong[0] if wrong else None


def _places_of_stubs(library):
    """The places of the stubs of a library, by its deeds' uses."""
    at = len(library[3]) + len([give for give in library[2] if is_whole(give[4])])
    deeds = [use for use, row in enumerate(library[3]) if not row[2]]
    return {use: at + STEP * number for number, use in enumerate(deeds)}


def _all_rows(library):
    """The rows of each deed, in the gives' order, then those of first and of last."""
    return [*[give[4] for give in library[2] if not is_whole(give[4])], library[4], library[5]]


def _laid_row(row):
    """The three numbers of a row."""
    parts = [name_number(part) if isinstance(part, str) else part for part in row[1:]]
    return [WORDS.index(row[0]), *parts, 0][:STEP]
