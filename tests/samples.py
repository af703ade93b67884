"""Libraries that several tests take."""

from latehall.texts import read

SMALL = ("a", (), (), (), (), (), ())

USES = (
    ("count", "", True, True),
    ("run", "old", False, True),
    ("help", "", False, False),
)

GIVES = (
    ("run", "", True, False, (("tell", 3), ("call", 1))),
    ("run", "old", False, True, ()),
    ("size", "new", True, True, -5),
    ("size", "old", False, False, 0),
)

ROWS = (
    ("tell", -7),
    ("show", 0),
    ("put", 0, -5),
    ("add", 0, 10 ** 29),
    ("skip", 0),
    ("call", 2),
    ("bring", "b"),
    ("share", "c"),
)

LAST = (("drop", "b"), ("ask", "b", "w"))

LARGE = ("large", ("b", "c"), GIVES, USES, ROWS, LAST, ("early", "own", "stays"))

LARGE_TEXT = "\n".join([
    "lib large early own stays",
    "needs b c",
    "use count - cell",
    "use run old must",
    "use help - may",
    "deed run - c ; tell 3 ; call 1",
    "deed run old f",
    "cell size new cf -5",
    "cell size old - 0",
    "first ; tell -7 ; show 0 ; put 0 -5 ; add 0 1" + "0" * 29
    + " ; skip 0 ; call 2 ; bring b ; share c",
    "last ; drop b ; ask b w",
])

PLACES = {"name": 0, "needs": 1, "gives": 2, "uses": 3, "first": 4, "last": 5, "marks": 6}

# Things of many kinds, none of which is a library, a shelf, rows or a name.
THINGS = [
    None, True, False, 0, 1, -1, 10 ** 29, "", " ", "A", "a b", "\t", "\n", "~",
    [], {}, [[]], {"a": 1}, {1: "a"}, (None,), ([],), ({},), (True,), ((),),
    (("tell",),), [("tell", 1)], {"tell": 1},
]


def with_part(part, thing, library=LARGE):
    """A library with another thing in the place of a part."""
    place = PLACES[part]
    return library[:place] + (thing,) + library[place + 1:]


def nested(depth):
    """A thing of lists, tuples and dicts within one another."""
    thing = 1
    for at in range(depth):
        thing = [[thing], (thing,), {"a": thing}][at % 3]
    return thing


def library_of(text):
    """A library of a text whose lines are parted by |."""
    return read("\n".join([line.strip() for line in text.split("|")]))


def shelf_of(*texts):
    """A shelf of libraries' texts whose lines are parted by |."""
    return tuple([library_of(text) for text in texts])


def needing(**needs):
    """A shelf of libraries that need each other and have nothing else: b="a c"."""
    return tuple([(name, tuple(words.split()), (), (), (), (), ()) for name, words in needs.items()])
