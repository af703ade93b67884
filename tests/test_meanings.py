"""Which give fits a use, and what a use means in a scope (points 2 and 11)."""

import copy
import itertools
import random
import unittest

from latehall.meanings import fits, is_meaning, meaning
from samples import SMALL, THINGS, nested, with_part

DEED = (("tell", 1),)


def giving(*gives):
    return with_part("gives", gives, SMALL)


def give(word, version="", flags="", what=0):
    return (word, version, version == "" or "c" in flags, "f" in flags, what)


def cell_use(word, version=""):
    return (word, version, True, True)


def deed_use(word, version="", must=False):
    return (word, version, False, must)


class Fits(unittest.TestCase):
    def fit(self, given, use):
        self.assertIs(fits(given, use), True, (given, use))

    def no_fit(self, given, use):
        self.assertIs(fits(given, use), False, (given, use))

    def test_words(self):
        self.fit(give("x"), cell_use("x"))
        self.no_fit(give("x"), cell_use("y"))
        self.no_fit(give("x"), cell_use("xx"))
        self.no_fit(give("x", "v"), cell_use("v", "x"))

    def test_cells_and_deeds(self):
        for number in (0, 1, -5, 10 ** 29):
            self.fit(give("x", what=number), cell_use("x"))
            self.no_fit(give("x", what=number), deed_use("x"))
        for rows in ((), DEED):
            self.fit(give("x", what=rows), deed_use("x"))
            self.no_fit(give("x", what=rows), cell_use("x"))

    def test_a_use_without_a_version_fits_what_is_chosen(self):
        self.fit(give("x", "v", "c"), cell_use("x"))
        self.no_fit(give("x", "v"), cell_use("x"))
        self.fit(give("x", ""), cell_use("x"))

    def test_versions_alike(self):
        self.fit(give("x", "v"), cell_use("x", "v"))
        self.fit(give("x", "v", "c"), cell_use("x", "v"))
        self.no_fit(give("x", "v"), cell_use("x", "w"))
        self.no_fit(give("x", "v", "c"), cell_use("x", "w"))

    def test_a_give_without_a_version_fits_each(self):
        self.fit(give("x", ""), cell_use("x", "v"))
        self.fit(give("x", "", "f", DEED), deed_use("x", "w"))

    def test_must_and_faint_do_not_matter(self):
        for must, flags in itertools.product((True, False), ("c", "cf")):
            self.fit(give("x", "v", flags, DEED), deed_use("x", "", must))
            self.no_fit(give("x", "v", flags, DEED), deed_use("x", "w", must))

    def test_all_by_the_words_of_the_point(self):
        gives = [give(word, version, flags, what) for word, version, flags, what
                 in itertools.product("xy", ("", "v", "w"), ("", "c", "f", "cf"), (0, 3, (), DEED))]
        uses = [(word, version, cell, True) for word, version, cell in itertools.product("xy", ("", "v", "w"), (0, 1))]
        for given, use in itertools.product(gives, uses):
            use = (*use[:2], bool(use[2]), True)
            alike = given[0] == use[0] and isinstance(given[4], int) == use[2]
            by_version = (use[1] == "" and given[2]) or use[1] == given[1] or given[1] == ""
            (self.fit if alike and by_version else self.no_fit)(given, use)


class Meanings(unittest.TestCase):
    def meant(self, scope, use, told, **more):
        ahead = copy.deepcopy(scope)
        found = meaning(scope, use, **more)
        self.assertEqual(found, told)
        self.assertIs(type(found), type(told))
        self.assertIs(is_meaning(scope, use, told, **more), True)
        self.assertEqual(scope, ahead)

    def test_an_empty_scope(self):
        self.meant([], cell_use("x"), None)
        self.meant([], cell_use("x"), None, faint=True)

    def test_none_fits(self):
        self.meant([SMALL, giving(give("y"))], cell_use("x"), None)
        self.meant([giving(give("x", "v"))], cell_use("x"), None)

    def test_the_first_by_the_scope(self):
        scope = [SMALL, giving(give("y"), give("x")), giving(give("x"))]
        self.meant(scope, cell_use("x"), (1, 1))
        self.meant(scope[::-1], cell_use("x"), (0, 0))

    def test_then_by_the_gives_numbers(self):
        self.meant([giving(give("x", "v"), give("x", ""))], cell_use("x", "v"), (0, 0))
        self.meant([giving(give("x", ""), give("x", "v"))], cell_use("x", "v"), (0, 0))
        self.meant([giving(give("x", "v"), give("x", ""))], cell_use("x"), (0, 1))

    def test_the_scope_goes_ahead_of_the_version(self):
        self.meant([giving(give("x", "")), giving(give("x", "v"))], cell_use("x", "v"), (0, 0))

    def test_deeds_among_cells(self):
        scope = [giving(give("x")), giving(give("x", what=DEED))]
        self.meant(scope, deed_use("x"), (1, 0))
        self.meant(scope, cell_use("x"), (0, 0))

    def test_a_library_twice(self):
        library = giving(give("x"), give("y"))
        self.meant([SMALL, library, library], cell_use("y"), (1, 1))
        self.meant([library, library], cell_use("x"), (0, 0), faint=True)

    def test_faint_true(self):
        scope = [giving(give("x", "", "f")), SMALL, giving(give("y"), give("x"))]
        self.meant(scope, cell_use("x"), (0, 0))
        self.meant(scope, cell_use("x"), (0, 0), faint=False)
        self.meant(scope, cell_use("x"), (2, 1), faint=True)

    def test_faint_true_within_a_library(self):
        scope = [giving(give("x", "", "f"), give("x", "v"))]
        self.meant(scope, cell_use("x", "v"), (0, 0))
        self.meant(scope, cell_use("x", "v"), (0, 1), faint=True)
        self.meant(scope, cell_use("x"), (0, 0), faint=True)

    def test_only_faint_ones(self):
        scope = [SMALL, giving(give("x", "v", "f"), give("x", "", "f")), giving(give("x", "v", "f"))]
        self.meant(scope, cell_use("x", "v"), (1, 0), faint=True)
        self.meant(scope, cell_use("x"), (1, 1), faint=True)

    def test_what_is_not_faint_but_does_not_fit_does_not_count(self):
        scope = [giving(give("x", "", "f")), giving(give("x", "w")), giving(give("x", what=DEED))]
        self.meant(scope, cell_use("x", "v"), (0, 0), faint=True)

    def test_is_meaning_of_nearly_it(self):
        scope = [giving(give("y"), give("x", "", "f")), giving(give("y"), give("x"))]
        nearly = [None, (0, 0), (1, 1), (1, 0), [0, 1], (False, True), (0, True), (False, 1), (0,), (), (0, 1, 0),
                  ((0, 1),), "01", "(0, 1)", {0: 1}, 1, 0, (None, 1), ("0", "1"), (0, [1]), ([], {}), (0, -1)]
        for thing in nearly + THINGS + [nested(19), [0] * 9999, (0, nested(18))]:
            self.assertIs(is_meaning(scope, cell_use("x"), thing), False, thing)
        self.assertIs(is_meaning(scope, cell_use("x"), (0, 1)), True)
        self.assertIs(is_meaning(scope, cell_use("x"), (0, 1), faint=False), True)
        self.assertIs(is_meaning(scope, cell_use("x"), (0, 1), faint=True), False)
        self.assertIs(is_meaning(scope, cell_use("x"), (1, 1), faint=True), True)

    def test_is_meaning_where_there_is_none(self):
        for thing in (0, False, (), [], "", {}, (None,), (None, None), (0, 0)):
            self.assertIs(is_meaning([SMALL], cell_use("x"), thing), False, thing)
            self.assertIs(is_meaning([], cell_use("x"), thing, faint=True), False, thing)
        self.assertIs(is_meaning([], cell_use("x"), None), True)

    def test_is_meaning_leaves_things_as_they_are(self):
        thing = [[0, 1], {"a": [1]}]
        is_meaning([SMALL], cell_use("x"), thing)
        self.assertEqual(thing, [[0, 1], {"a": [1]}])

    def test_by_chance(self):
        chance = random.Random(12)
        for _ in range(300):
            scope = [giving(*[give(chance.choice("xy"), chance.choice(["", "v", "w"]), chance.choice(["", "c", "f"]),
                                   chance.choice([1, DEED])) for _ in range(chance.randint(0, 4))])
                     for _ in range(chance.randint(0, 5))]
            use = (chance.choice("xy"), chance.choice(["", "v"]), chance.random() < 0.5, True)
            fitting = [(place, at) for place, library in enumerate(scope)
                       for at, given in enumerate(library[2]) if fits(given, use)]
            strong = [(place, at) for place, at in fitting if not scope[place][2][at][3]]
            self.meant(scope, use, (fitting + [None])[0])
            self.meant(scope, use, (strong + fitting + [None])[0], faint=True)


if __name__ == "__main__":
    unittest.main()
