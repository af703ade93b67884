"""Whole numbers as figures, of any length.

Python refuses to turn texts of more than 4,300 figures into numbers, and
numbers into such texts; so both are done here by sixty figures at a time.
"""

FIGURES = "0123456789"
STRETCH = 60


def number_of(word):
    """The whole number that a word writes, or None where it writes none."""
    below = word.startswith("-")
    figures = word[1:] if below else word
    if figures == "" or not all([figure in FIGURES for figure in figures]):
        return None
    # A 0 ahead stands in 0 itself alone, and -0 is none.
    if figures[0] == "0" and word != "0":
        return None
    return -_value(figures) if below else _value(figures)


def written(number):
    """The figures of a whole number, with - ahead below 0."""
    if number < 0:
        return "-" + written(-number)
    stretches = []
    while number >= 10 ** 60:
        number, stretch = divmod(number, 10 ** 60)
        stretches.append(str(stretch).zfill(STRETCH))
    return "".join([str(number), *stretches[::-1]])


def _value(figures):
    start = len(figures) % STRETCH
    value = int(figures[:start]) if start else 0
    for at in range(start, len(figures), STRETCH):
        value = value * 10 ** 60 + int(figures[at:at + STRETCH])
    return value
