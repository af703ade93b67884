"""Libraries and shelves as texts: how they are written, and how they are read."""

from latehall.errors import NoText
from latehall.figures import number_of, written
from latehall.libraries import ROW_PARTS, is_library, is_shelf

# A use's truths cell and must, by its KIND.
KINDS = {"cell": (True, True), "must": (False, True), "may": (False, False)}
# A give's truths chosen and faint, by its FLAGS.
FLAGS = {"-": (False, False), "c": (True, False), "f": (False, True), "cf": (True, True)}
# The place in a library of the part to which a line of each word adds.
PLACES = {"needs": 1, "use": 3, "cell": 2, "deed": 2, "first": 4, "last": 5}
# The places that are empty yet ahead of such a line: of the parts that are
# written behind it, and its own where one line writes the whole part.
EMPTY_AHEAD = {
    "needs": (1, 3, 2, 4, 5),
    "use": (2, 4, 5),
    "cell": (4, 5),
    "deed": (4, 5),
    "first": (4, 5),
    "last": (5,),
}


def shown(library):
    """The text of a library."""
    name, needs, gives, uses, first, last, marks = library
    lines = [" ".join(["lib", name, *marks])]
    if needs:
        lines.append(" ".join(["needs", *needs]))
    lines.extend([_shown_use(use) for use in uses])
    lines.extend([_shown_give(give) for give in gives])
    if first:
        lines.append(_shown_rows("first", first))
    if last:
        lines.append(_shown_rows("last", last))
    return "\n".join(lines)


def shown_shelf(shelf):
    """The text of a shelf: its libraries' texts, an empty line between two."""
    return "\n\n".join([shown(library) for library in shelf])


def read(text):
    """The library that a text writes; NoText with the first line that goes wrong."""
    lines = text.split("\n")
    library, end = _read_from(lines, 0, ())
    if end < len(lines):
        raise NoText(end)
    return library


def read_shelf(text):
    """The shelf that a text writes; NoText with the first line that goes wrong."""
    lines = text.split("\n")
    library, end = _read_from(lines, 0, ())
    shelf = (library,)
    while end < len(lines):
        # An empty line stands between two libraries: with the last line none goes on.
        if end + 1 == len(lines):
            raise NoText(end)
        library, end = _read_from(lines, end + 1, shelf)
        shelf = (*shelf, library)
    return shelf


def _shown_version(version):
    return "-" if version == "" else version


def _shown_use(use):
    word, version, cell, must = use
    kind = [key for key in KINDS if KINDS[key] == (cell, must)][0]
    return f"use {word} {_shown_version(version)} {kind}"


def _shown_give(give):
    word, version, chosen, faint, what = give
    flags = [key for key in FLAGS if FLAGS[key] == (chosen, faint)][0]
    head = f"{word} {_shown_version(version)} {flags}"
    if isinstance(what, tuple):
        return _shown_rows(f"deed {head}", what)
    return f"cell {head} {written(what)}"


def _shown_rows(head, rows):
    return " ; ".join([head, *[_shown_row(row) for row in rows]])


def _shown_row(row):
    return " ".join([part if isinstance(part, str) else written(part) for part in row])


def _read_from(lines, start, shelf):
    """The library that begins at a line, behind those of a shelf, and the first
    line that isn't the library's: an empty one, or as many as there are lines."""
    library = _opened(lines[start])
    if not is_shelf((*shelf, library)):
        raise NoText(start)
    at = start + 1
    while at < len(lines) and lines[at] != "":
        # What a library's lines write so far is a library always, since all
        # that a line hangs on stands ahead of it: so each line is judged at once.
        library = _grown(library, lines[at])
        if not is_library(library):
            raise NoText(at)
        at += 1
    return library, at


def _opened(line):
    """What a library's first line writes, a library or not; None of another line."""
    words = line.split(" ")
    if words[0] != "lib" or len(words) == 1:
        return None
    return (words[1], (), (), (), (), (), tuple(words[2:]))


def _grown(library, line):
    """The library with what one more line writes, a library or not; None where
    the line is none of these, or may not stand behind those ahead."""
    head, *texts = line.split(" ; ")
    word, *words = head.split(" ")
    if word not in PLACES or any([library[place] for place in EMPTY_AHEAD[word]]):
        return None
    added = _added(word, words, tuple([_row_of(text) for text in texts]))
    if not added:
        return None
    place = PLACES[word]
    return (*library[:place], library[place] + added, *library[place + 1:])


def _added(word, words, rows):
    """What a line adds to its part; nothing where its form is wrong."""
    if word in ("first", "last"):
        return () if words else rows
    if word == "deed":
        return _give_of(words, rows)
    # No other lines have rows behind.
    if rows:
        return ()
    if word == "needs":
        return tuple(words)
    if word == "use":
        return _use_of(words)
    return _give_of(words[:3], number_of(words[3])) if len(words) == 4 else ()


def _version_of(word):
    if word == "-":
        return ""
    # Where two blanks stand a word is "", which would be taken for a version.
    return None if word == "" else word


def _use_of(words):
    if len(words) != 3 or words[2] not in KINDS:
        return ()
    cell, must = KINDS[words[2]]
    return ((words[0], _version_of(words[1]), cell, must),)


def _give_of(words, what):
    if len(words) != 3 or words[2] not in FLAGS:
        return ()
    chosen, faint = FLAGS[words[2]]
    return ((words[0], _version_of(words[1]), chosen, faint, what),)


def _row_of(text):
    word, *parts = text.split(" ")
    if word not in ROW_PARTS or len(parts) != len(ROW_PARTS[word]):
        return None
    kinds = ROW_PARTS[word]
    return (word, *[part if kind == "name" else number_of(part) for part, kind in zip(parts, kinds)])
