"""The desk: a shelf and a hall, told by rows and answering by texts."""

from latehall.errors import NoRow
from latehall.figures import number_of, written
from latehall.halls import Hall
from latehall.shelving import shelved
from latehall.texts import read
from latehall.things import are_unlike, is_name

SHELVE = "shelve\n"
MOST_FIGURES = 9
STARTS = ("early", "faint")
BRINGS = ("shared", "early", "apart")

# What stands behind the word of each row whose parts are told by their places.
PARTS = {
    "drop": ("number",),
    "end": (),
    "show": ("number", "word", "version"),
    "call": ("number", "word", "version"),
    "look": ("number", "word", "version", "kind"),
    "told": (),
    "standing": (),
    "held": (),
    "scope": ("number",),
    "why": ("number",),
}


class Desk:
    """A desk, at first with no library on its shelf and without a hall."""

    def __init__(self):
        self._shelf = ()
        self._hall = None
        # How much the hall had told as it was asked last what was told.
        self._many_told = 0

    def say(self, row):
        """The answer to a row; NoRow, NoText, and what a hall's calls are refused with."""
        if row.startswith(SHELVE):
            return self._shelve(row[len(SHELVE):])
        word, *words = row.split(" ")
        if word == "start":
            return self._start(words)
        if self._hall is None:
            raise NoRow()
        if word == "bring":
            return self._bring(words)
        return self._answer(word, _parts(word, words))

    def _shelve(self, text):
        library = read(text)
        self._shelf = shelved(self._shelf, library)
        if self._hall is not None:
            self._hall.shelve(library)
        return "ok"

    def _start(self, words):
        # The main itself may be called ahead, and so may any of the names behind it.
        at = words[1:].index("ahead") + 1 if "ahead" in words[1:] else len(words)
        name, early, faint = _wished(words[:at], STARTS)
        ahead = tuple(words[at + 1:])
        if at < len(words) and not _is_ahead(ahead, name):
            raise NoRow()
        self._hall = Hall(self._shelf, name, ahead=ahead, early=early, faint=faint)
        self._many_told = 0
        return "ok"

    def _bring(self, words):
        name, shared, early, apart = _wished(words, BRINGS)
        return str(self._hall.bring(name, shared=shared, early=early, apart=apart).number)

    def _answer(self, word, parts):
        if word == "told":
            return self._told()
        if word == "standing":
            return _listed([f"{number}:{name}" for number, _, name in self._hall.stands()])
        if word == "held":
            return _listed([str(number) for number in self._hall.held()])
        if word == "end":
            self._hall.end()
            return "ok"
        if word == "scope":
            return self._scope(parts[0])
        if word == "why":
            return self._why(parts[0])
        return self._answer_of_hold(word, parts)

    def _answer_of_hold(self, word, parts):
        hold = self._hall.hold(parts[0])
        if word == "drop":
            self._hall.drop(hold)
            return "ok"
        if word == "call":
            self._hall.call(hold, parts[1], version=parts[2])
            return "ok"
        if word == "show":
            return written(self._hall.show(hold, parts[1], version=parts[2]))
        means = self._hall.look(hold, parts[1], version=parts[2], cell=parts[3])
        return "none" if means is None else f"{means[0]}:{means[1]}"

    def _told(self):
        told = self._hall.told()
        rows = told[self._many_told:]
        self._many_told = len(told)
        return _listed([f"{number}:{_what(what)}" for number, what in rows])

    def _scope(self, number):
        if number not in [row[0] for row in self._hall.stands()]:
            return "none"
        return _listed([str(other) for other in self._hall.scope(number)])

    def _why(self, number):
        told = self._hall.why(number)
        if told is None:
            return "none"
        word, way = told
        return " ".join([word, *[str(other) for other in way]])


def _wished(words, wishes):
    """A name, and for each of the words that may be wished behind it whether it is; NoRow."""
    wished = words[1:]
    if not words or not is_name(words[0]) or wished != [wish for wish in wishes if wish in wished]:
        raise NoRow()
    return [words[0], *[wish in wished for wish in wishes]]


def _is_ahead(names, main):
    """Whether names may be put ahead of a main's needs."""
    if not names or not all([is_name(name) for name in names]):
        return False
    return are_unlike(names) and main not in names


def _parts(word, words):
    """What stands behind the word of a row; NoRow."""
    if word not in PARTS or len(words) != len(PARTS[word]):
        raise NoRow()
    return [_part(text, kind) for text, kind in zip(words, PARTS[word])]


def _part(text, kind):
    """What one word of a row writes; NoRow."""
    if kind == "number" and _is_number(text):
        return number_of(text)
    if kind in ("word", "version") and is_name(text):
        return text
    if kind == "version" and text == "-":
        return ""
    if kind == "kind" and text in ("cell", "deed"):
        return text == "cell"
    raise NoRow()


def _is_number(text):
    # The length is asked first, since a text may have thousands of figures.
    if len(text) > MOST_FIGURES or text.startswith("-"):
        return False
    return number_of(text) is not None


def _listed(words):
    return " ".join(words) if words else "none"


def _what(what):
    return str(what) if what is None or isinstance(what, str) else written(what)
