"""Ways: what is led to from where one starts, by a dict from each one to those it leads to."""


def led_from(starts, leads):
    """All that is reached from the starts, nearest first: a dict from each to
    the one that led to it first, None for a start."""
    ahead = {start: None for start in starts}
    row = list(ahead)
    at = 0
    while at < len(row):
        one = row[at]
        for other in leads.get(one, ()):
            if other not in ahead:
                ahead[other] = one
                row.append(other)
        at += 1
    return ahead


def way_back(ahead, one):
    """The way from a start to one, by what each one was led to from."""
    way = [one]
    while ahead[way[-1]] is not None:
        way.append(ahead[way[-1]])
    return way[::-1]
