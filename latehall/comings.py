"""How libraries come: with their walks, counted, and bound; or not at all."""

from latehall.errors import Unmet
from latehall.grounds import MAIN_SPACE
from latehall.walks import needs_of, walk_by


def come_as_main(ground, main, ahead):
    """The main comes, with names put ahead of its needs; NoLibrary, Unmet."""
    needs = needs_of(ground.shelf, main, ahead)
    fresh = ground.settle(MAIN_SPACE, walk_by(main, needs), needs)
    bind(ground, fresh, False)


def come(ground, space, name, *, shared, early):
    """A library is brought; told is its instance's number; NoLibrary, Unmet."""
    needs = ground.needs_in(space)
    fresh = ground.settle(space, walk_by(name, needs), needs)
    number = ground.places[(space, name)]
    ground.count_up(number, shared)
    try:
        bind(ground, fresh, early)
    except Unmet:
        # Only what comes anew is bound, so the opening is a new one, too.
        ground.count_down(number)
        ground.take_away(fresh)
        ground.next_number -= len(fresh)
        raise
    return number


def bind(ground, fresh, early):
    """Binds those uses of new instances that are bound as they come; Unmet."""
    for number in fresh:
        instance = ground.instances[number]
        name, uses, marks = instance.library[0], instance.library[3], instance.library[6]
        is_early = early or ground.early or "early" in marks
        scope = ground.scope_of(number)
        for at, use in enumerate(uses):
            if use[2] or is_early:
                means = ground.meant(scope, use)
                if means is None and use[3]:
                    raise Unmet(name, use[0])
                instance.bound[at] = means
