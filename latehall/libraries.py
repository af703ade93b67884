"""What is a library, what are its rows, what is a shelf: told of any thing."""

from latehall.things import are_unlike, is_name, is_whole

MOST_NEEDS = 6
MOST_GIVES = 8
MOST_USES = 8
MOST_ROWS = 8
MOST_LIBRARIES = 12
MARKS = ("early", "own", "stays")

# What stands behind the word of each row: "cell" and "deed" are numbers of uses.
ROW_PARTS = {
    "tell": ("number",),
    "show": ("cell",),
    "put": ("cell", "number"),
    "add": ("cell", "number"),
    "skip": ("cell",),
    "call": ("deed",),
    "bring": ("name",),
    "share": ("name",),
    "drop": ("name",),
    "ask": ("name", "name"),
}


def is_library(thing):
    """Whether a thing is a library."""
    if not isinstance(thing, tuple) or len(thing) != 7:
        return False
    name, needs, gives, uses, first, last, marks = thing
    # Rows are told by the uses, so these are looked at ahead of all that has rows.
    if not is_name(name) or not _is_needs(needs, name) or not _is_uses(uses):
        return False
    if not _is_gives(gives, uses) or not _is_marks(marks):
        return False
    return _is_rows(first, uses) and _is_rows(last, uses)


def is_shelf(thing):
    """Whether a thing is a shelf: one to twelve libraries with unlike names."""
    if not _is_tuple_up_to(thing, MOST_LIBRARIES) or len(thing) == 0:
        return False
    if not all([is_library(part) for part in thing]):
        return False
    return are_unlike([library[0] for library in thing])


def _is_tuple_up_to(thing, most):
    return isinstance(thing, tuple) and len(thing) <= most


def _is_needs(thing, name):
    if not _is_tuple_up_to(thing, MOST_NEEDS) or not all([is_name(need) for need in thing]):
        return False
    return are_unlike(thing) and name not in thing


def _is_version(thing):
    return thing == "" or is_name(thing)


def _is_uses(thing):
    return _is_tuple_up_to(thing, MOST_USES) and all([_is_use(use) for use in thing])


def _is_use(thing):
    if not isinstance(thing, tuple) or len(thing) != 4:
        return False
    word, version, cell, must = thing
    if not is_name(word) or not _is_version(version):
        return False
    return isinstance(cell, bool) and isinstance(must, bool) and (must or not cell)


def _is_gives(thing, uses):
    if not _is_tuple_up_to(thing, MOST_GIVES) or not all([_is_give(give, uses) for give in thing]):
        return False
    chosen = [give[0] for give in thing if give[2]]
    return are_unlike([give[:2] for give in thing]) and are_unlike(chosen)


def _is_give(thing, uses):
    if not isinstance(thing, tuple) or len(thing) != 5:
        return False
    word, version, chosen, faint, what = thing
    if not is_name(word) or not _is_version(version):
        return False
    if not isinstance(chosen, bool) or not isinstance(faint, bool):
        return False
    return (chosen or version != "") and (is_whole(what) or _is_rows(what, uses))


def _is_marks(thing):
    # A rising tuple of unlike marks is all the marks but those that it hasn't.
    return isinstance(thing, tuple) and thing == tuple([mark for mark in MARKS if mark in thing])


def _is_rows(thing, uses):
    return _is_tuple_up_to(thing, MOST_ROWS) and all([_is_row(row, uses) for row in thing])


def _is_row(thing, uses):
    if not isinstance(thing, tuple) or len(thing) == 0:
        return False
    word = thing[0]
    # Not each thing may be sought in a dict, so that it is a text is asked first.
    if not isinstance(word, str) or word not in ROW_PARTS:
        return False
    kinds = ROW_PARTS[word]
    if len(thing) != 1 + len(kinds):
        return False
    return all([_is_row_part(part, kind, uses) for part, kind in zip(thing[1:], kinds)])


def _is_row_part(part, kind, uses):
    if kind == "name":
        return is_name(part)
    if kind == "number":
        return is_whole(part)
    return is_whole(part) and 0 <= part < len(uses) and uses[part][2] == (kind == "cell")
