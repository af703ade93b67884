"""What the uses of a main and of loads will mean, reckoned ahead; and how two such tables part."""

from latehall.comings import settle_brought, settle_main
from latehall.grounds import MAIN_SPACE, Ground
from latehall.stores import Store
from latehall.things import are_same


def reckoned(shelf, main, *, loads=(), faint=False):
    """The table: (name, use, meaning) of all that comes, by the scope as it comes; NoLibrary."""
    ground = Ground(shelf, False, faint, Store())
    rows = _rows_of(ground, settle_main(ground, main, ()))
    for name, shared in loads:
        rows.extend(_rows_of(ground, settle_brought(ground, MAIN_SPACE, name, shared)))
    return rows


def wrong_row(shelf, main, rows, *, loads=(), faint=False):
    """The least number of a row that isn't the table's, or None; NoLibrary."""
    table = reckoned(shelf, main, loads=loads, faint=faint)
    for at, (row, told) in enumerate(zip(rows, table)):
        if not are_same(row, told):
            return at
    return None if len(rows) == len(table) else min(len(rows), len(table))


def conflicts(rows, other):
    """The rows of the other table that the first hasn't, and the (name, use) for
    which the first has a row and the other none."""
    uses = [row[:2] for row in other]
    return ([row for row in other if row not in rows], [row[:2] for row in rows if row[:2] not in uses])


def mended(rows, told, order):
    """The first table with its conflicts mended, by an order of (name, use)."""
    others, lacking = told
    kept = [row for row in rows if row[:2] not in lacking]
    by_use = {row[:2]: row for row in [*kept, *others]}
    return [by_use[use] for use in order]


def _rows_of(ground, fresh):
    """The rows of new instances."""
    rows = []
    for number in fresh:
        library = ground.instances[number].library
        scope = ground.scope_of(number)
        for at, use in enumerate(library[3]):
            means = ground.meant(scope, use)
            rows.append((library[0], at, None if means is None else _by_name(ground, means)))
    return rows


def _by_name(ground, means):
    number, give = means
    return (ground.instances[number].library[0], give)
