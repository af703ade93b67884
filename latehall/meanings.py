"""Meanings: which give a use means in a scope."""

from latehall.things import are_same, is_whole


def fits(give, use):
    """Whether a give fits a use."""
    word, version, cell, _ = use
    if give[0] != word or is_whole(give[4]) != cell:
        return False
    return (version == "" and give[2]) or give[1] in (version, "")


def meaning(scope, use, *, faint=False):
    """What a use means in a list of libraries: (place, number of the give), or None."""
    fitting = [
        (place, number, give[3])
        for place, library in enumerate(scope)
        for number, give in enumerate(library[2])
        if fits(give, use)
    ]
    found = first_meant(fitting, faint)
    return None if found is None else found[:2]


def is_meaning(scope, use, thing, *, faint=False):
    """Whether a thing is what a use means in a scope."""
    return are_same(thing, meaning(scope, use, faint=faint))


def first_meant(fitting, faint):
    """Of tuples whose last part tells whether their give is faint, the first
    that counts, or None."""
    strong = [found for found in fitting if not found[-1]]
    if faint and strong:
        return strong[0]
    return fitting[0] if fitting else None
