"""Questions about single things: is it a name, a whole number, are some unlike."""

LETTERS = "abcdefghijklmnopqrstuvwxyz"
LONGEST_NAME = 8


def is_name(thing):
    """Whether a thing is a text of one to eight small letters."""
    if not isinstance(thing, str) or not 1 <= len(thing) <= LONGEST_NAME:
        return False
    return all([letter in LETTERS for letter in thing])


def is_whole(thing):
    """Whether a thing is a whole number; Python takes truths for numbers, the document doesn't."""
    return isinstance(thing, int) and not isinstance(thing, bool)


def are_unlike(names):
    """Whether no two of these names, or tuples of names, are alike."""
    return len(set(names)) == len(names)


def are_same(thing, told):
    """Whether any thing is just what was told: None, a whole number, a text or
    a tuple of such; Python takes 1 and True for alike, the document doesn't."""
    if told is None:
        return thing is None
    if isinstance(told, tuple):
        if not isinstance(thing, tuple) or len(thing) != len(told):
            return False
        return all([are_same(part, other) for part, other in zip(thing, told)])
    if isinstance(told, str):
        return isinstance(thing, str) and thing == told
    return is_whole(thing) and thing == told
