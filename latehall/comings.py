"""How libraries come: with their walks, counted, and bound; or not at all."""

from latehall.errors import Unmet
from latehall.grounds import MAIN_SPACE
from latehall.walks import needs_of, walk_by


def come_as_main(ground, main, ahead):
    """The main comes, with names put ahead of its needs; NoLibrary, Unmet."""
    fresh = settle_main(ground, main, ahead)
    ground.lay(fresh, _bound_at_once(ground, fresh, False))


def come(ground, space, name, *, shared, early):
    """A library is brought; told is its instance's number; NoLibrary, Unmet."""
    fresh = settle_brought(ground, space, name, shared)
    number = ground.places[(space, name)]
    try:
        bound = _bound_at_once(ground, fresh, early)
    except Unmet:
        # Only what comes anew is bound, so the opening is a new one, too.
        ground.count_down(number)
        ground.unsettle(fresh)
        raise
    ground.lay(fresh, bound)
    return number


def settle_main(ground, main, ahead):
    """The main stands, with nothing bound yet; told are the numbers of what came; NoLibrary."""
    needs = needs_of(ground.shelf, main, ahead)
    return ground.settle(MAIN_SPACE, walk_by(main, needs), needs)


def settle_brought(ground, space, name, shared):
    """What is brought stands and is counted, with nothing bound yet; told are
    the numbers of the new instances; NoLibrary."""
    needs = ground.needs_in(space)
    fresh = ground.settle(space, walk_by(name, needs), needs)
    ground.count_up(ground.places[(space, name)], shared)
    return fresh


def _bound_at_once(ground, fresh, early):
    """(instance, use, meaning) for what new instances bind as they come; Unmet."""
    bound = []
    for number in fresh:
        library = ground.instances[number].library
        is_early = early or ground.early or "early" in library[6]
        scope = ground.scope_of(number)
        for at, use in enumerate(library[3]):
            if use[2] or is_early:
                means = ground.meant(scope, use)
                if means is not None:
                    bound.append((number, at, means))
                elif use[3]:
                    raise Unmet(library[0], use[0])
    return bound
