"""Parts, the order of beginnings, what is wrong with an order, rounds (points 2, 9, 10)."""

import copy
import itertools
import random
import unittest

from latehall.errors import NoLibrary
from latehall.order import order_of, parts_of, round_of, wrong_at
from latehall.walks import walk_of
from samples import THINGS, needing, nested

# a needs the ring of b, c and d along two ways; the ring needs e and the ring of f and g.
RINGS = needing(a="d b", b="c", c="d e", d="b f", e="", f="g", g="f", h="a")
TWO_WAYS = needing(a="b c", b="d", c="d", d="")
TWELVE = needing(a="b", b="c", c="d", d="e", e="f", f="g", g="h", h="i", i="j", j="k", k="l", l="")
NO_LISTS = [None, True, 0, 1, "", "abcd", ("d", "b", "c", "a"), (), {}, {"a": 1}]
NO_NAMES = [None, True, False, 0, 1, "", "A", ("a",), ["a"], [], {}, {"a": "a"}, [["a"]], "aa"]


def needs_in(shelf):
    return {library[0]: library[1] for library in shelf}


def ways_in(shelf):
    """All pairs of which a way of needs leads from the one to the other."""
    needs = needs_in(shelf)
    pairs = {(one, need) for one in needs for need in needs[one]} | {(one, one) for one in needs}
    for far, one, other in itertools.product(needs, repeat=3):
        if (one, far) in pairs and (far, other) in pairs:
            pairs.add((one, other))
    return pairs


def wrong_plainly(shelf, name, thing):
    """What is wrong with a list of texts as an order, by the words of point 10."""
    walk, needs, ways = walk_of(shelf, name), needs_in(shelf), ways_in(shelf)
    for at, one in enumerate(thing):
        if one not in walk or one in thing[:at]:
            return (at, None)
        for need in needs[one]:
            if (need, one) not in ways and need not in thing[:at]:
                return (at, need)
    return None if len(thing) == len(walk) else (len(thing), None)


def shelf_by_chance(chance, many):
    names = "abcdefghijkl"[:many]
    return tuple([
        (name, tuple(chance.sample([other for other in names if other != name], chance.randint(0, min(2, many - 1)))),
         (), (), (), (), ())
        for name in names
    ])


class Parts(unittest.TestCase):
    def told(self, shelf, name, parts):
        self.assertEqual(parts_of(shelf, name), parts)
        self.assertEqual(order_of(shelf, name), [one for part in parts for one in part])

    def test_one_library(self):
        self.told(needing(a=""), "a", [["a"]])

    def test_without_rings(self):
        self.told(needing(a="b c", b="", c=""), "a", [["b"], ["c"], ["a"]])
        self.told(needing(a="c b", b="", c=""), "a", [["c"], ["b"], ["a"]])
        self.told(needing(a="b c", b="c", c=""), "a", [["c"], ["b"], ["a"]])

    def test_a_library_needed_along_two_ways(self):
        self.told(TWO_WAYS, "a", [["d"], ["b"], ["c"], ["a"]])

    def test_twelve_libraries(self):
        self.told(TWELVE, "a", [[name] for name in "lkjihgfedcba"])
        ring = TWELVE[:11] + needing(l="a")
        self.told(ring, "a", [list("abcdefghijkl")])
        self.told(ring, "f", [list("fghijklabcde")])

    def test_one_ring(self):
        self.told(needing(a="b", b="c", c="a"), "a", [["a", "b", "c"]])
        self.told(needing(a="b", b="c", c="a"), "c", [["c", "a", "b"]])
        self.told(needing(a="b", b="c", c="d", d="b"), "a", [["b", "c", "d"], ["a"]])

    def test_several_rings(self):
        # The walk of a is a d b f c g e, so within a part d stands ahead of b.
        self.assertEqual(walk_of(RINGS, "a"), list("adbfcge"))
        self.told(RINGS, "a", [["f", "g"], ["e"], ["d", "b", "c"], ["a"]])
        self.told(RINGS, "h", [["f", "g"], ["e"], ["d", "b", "c"], ["a"], ["h"]])
        self.told(RINGS, "g", [["g", "f"]])

    def test_two_rings_that_share_a_library_are_one_part(self):
        self.told(needing(a="b", b="a c", c="b"), "a", [["a", "b", "c"]])

    def test_of_the_parts_that_may_come_the_one_that_stands_first_in_the_walk(self):
        # The walk is a b c d e: c may come first; then b is free, ahead of d and e.
        shelf = needing(a="b c d e", b="c", c="", d="", e="")
        self.told(shelf, "a", [["c"], ["b"], ["d"], ["e"], ["a"]])
        # The part of b and z has b, which stands ahead of c, and z, which stands behind it.
        shelf = needing(a="b c", b="z", c="", z="b")
        self.told(shelf, "a", [["b", "z"], ["c"], ["a"]])

    def test_only_what_is_in_the_walk(self):
        self.told(RINGS, "e", [["e"]])
        self.told(needing(a="b", b="", c="a"), "a", [["b"], ["a"]])

    def test_refused_with_the_first_name_met(self):
        shelf = needing(a="b c", b="y", c="x", d="")
        for ask in (parts_of, order_of):
            for name, lacking in (("a", "y"), ("c", "x"), ("z", "z")):
                with self.assertRaises(NoLibrary) as caught:
                    ask(shelf, name)
                self.assertEqual(caught.exception.name, lacking)
            ask(shelf, "d")

    def test_what_is_told_is_the_askers(self):
        parts_of(RINGS, "a")[2].append("x")
        parts_of(RINGS, "a").append("x")
        order_of(RINGS, "a").clear()
        self.test_several_rings()

    def test_by_chance(self):
        chance = random.Random(9)
        for _ in range(150):
            shelf = shelf_by_chance(chance, chance.randint(1, 12))
            name = chance.choice(shelf)[0]
            walk, ways, needs = walk_of(shelf, name), ways_in(shelf), needs_in(shelf)
            left, parts = list(walk), []
            while left:
                for one in left:
                    part = [other for other in left if (one, other) in ways and (other, one) in ways]
                    if all(need in part or need not in left for other in part for need in needs[other]):
                        break
                parts.append(part)
                left = [other for other in left if other not in part]
            self.told(shelf, name, parts)


class Wrong(unittest.TestCase):
    def wrong(self, shelf, name, thing, told):
        ahead = copy.deepcopy(thing)
        self.assertEqual(wrong_at(shelf, name, thing), told, thing)
        self.assertEqual(thing, ahead)

    def test_the_told_order_and_others(self):
        for name in "abcdefgh":
            self.wrong(RINGS, name, order_of(RINGS, name), None)
        self.wrong(TWO_WAYS, "a", list("dbca"), None)
        self.wrong(TWO_WAYS, "a", list("dcba"), None)

    def test_names_of_one_part_in_any_order_among_each_other(self):
        for ring in itertools.permutations("dbc"):
            for pair in itertools.permutations("fg"):
                self.wrong(RINGS, "a", [*pair, "e", *ring, "a"], None)
                self.wrong(RINGS, "a", ["e", *pair, *ring, "a"], None)

    def test_a_part_need_not_stand_together(self):
        self.wrong(needing(a="b c", b="c", c="b", d=""), "b", ["c", "b"], None)
        self.wrong(needing(a="b d", b="c", c="b", d=""), "a", ["c", "d", "b", "a"], None)

    def test_exchanged(self):
        self.wrong(TWO_WAYS, "a", list("bdca"), (0, "d"))
        self.wrong(TWO_WAYS, "a", list("dbac"), (2, "c"))
        self.wrong(RINGS, "a", list("fgdebca"), None)
        self.wrong(RINGS, "a", list("fgcedba"), (2, "e"))

    def test_left_out(self):
        self.wrong(TWO_WAYS, "a", list("dbc"), (3, None))
        self.wrong(TWO_WAYS, "a", list("dba"), (2, "c"))
        self.wrong(TWO_WAYS, "a", [], (0, None))
        self.wrong(needing(a="b", b="a"), "a", ["b"], (1, None))

    def test_doubled(self):
        self.wrong(TWO_WAYS, "a", list("ddbca"), (1, None))
        self.wrong(TWO_WAYS, "a", list("dbcaa"), (4, None))

    def test_strange_names(self):
        self.wrong(TWO_WAYS, "a", list("xdbca"), (0, None))
        self.wrong(TWO_WAYS, "a", list("dbcax"), (4, None))
        self.wrong(TWO_WAYS, "b", list("dba"), (2, None))

    def test_things_in_a_names_place(self):
        for thing in NO_NAMES + [nested(19), "x" * 9000]:
            self.wrong(TWO_WAYS, "a", [thing, "d", "b", "c", "a"], (0, None))
            self.wrong(TWO_WAYS, "a", ["d", "b", thing, "a"], (2, None))
            self.wrong(TWO_WAYS, "a", ["d", "b", "c", "a", thing], (4, None))

    def test_long_lists(self):
        self.wrong(TWO_WAYS, "a", ["d"] * 9999, (1, None))
        self.wrong(TWO_WAYS, "a", list("dbca") * 2000, (4, None))

    def test_no_lists(self):
        for thing in NO_LISTS + [thing for thing in THINGS if not isinstance(thing, list)]:
            self.wrong(TWO_WAYS, "a", thing, (0, None))

    def test_the_first_such_one_of_its_needs_of_another_part(self):
        shelf = needing(a="b c d", b="a", c="", d="")
        self.wrong(shelf, "a", ["b", "a", "c", "d"], (1, "c"))
        self.wrong(shelf, "a", ["c", "a", "b", "d"], (1, "d"))
        self.wrong(shelf, "a", ["d", "a", "b", "c"], (1, "c"))
        self.wrong(needing(a="d c b", b="", c="", d=""), "a", ["c", "a"], (1, "d"))

    def test_refused(self):
        for thing in (["a"], None, ("a",)):
            with self.assertRaises(NoLibrary) as caught:
                wrong_at(needing(a="x"), "a", thing)
            self.assertEqual(caught.exception.name, "x")
        with self.assertRaises(NoLibrary) as caught:
            wrong_at(TWO_WAYS, "y", ["a"])
        self.assertEqual(caught.exception.name, "y")

    def test_by_chance(self):
        chance = random.Random(10)
        for _ in range(100):
            shelf = shelf_by_chance(chance, chance.randint(1, 7))
            name = chance.choice(shelf)[0]
            for _ in range(10):
                thing = order_of(shelf, name)
                for _ in range(chance.randint(0, 3)):
                    at = chance.randint(0, len(thing))
                    thing[at:at + chance.randint(0, 2)] = chance.sample("abcdefgx", chance.randint(0, 2))
                self.wrong(shelf, name, thing, wrong_plainly(shelf, name, thing))


class Rounds(unittest.TestCase):
    def is_round(self, shelf, one, other):
        told, needs = round_of(shelf, one, other), needs_in(shelf)
        self.assertIs(type(told), list)
        self.assertEqual(told[0], one)
        self.assertIn(other, told)
        for name, need in zip(told, told[1:] + told[:1]):
            self.assertIn(need, needs[name], told)

    def test_near(self):
        self.assertEqual(round_of(needing(a="b", b="a"), "a", "b"), ["a", "b"])
        self.is_round(RINGS, "f", "g")
        self.is_round(RINGS, "g", "f")

    def test_far(self):
        ring = TWELVE[:11] + needing(l="a")
        for one, other in itertools.product("abcdefghijkl", repeat=2):
            self.is_round(ring, one, other)

    def test_a_name_may_stand_in_it_more_than_once(self):
        shelf = needing(a="b", b="a c", c="b")
        self.is_round(shelf, "a", "c")
        self.is_round(shelf, "c", "a")

    def test_none_where_they_are_not_of_one_part(self):
        for one, other in ("ab", "ba", "ef", "cf", "fc", "ha", "ea"):
            self.assertIsNone(round_of(RINGS, one, other))

    def test_itself_alone_in_its_part(self):
        self.assertEqual(round_of(RINGS, "a", "a"), ["a"])
        self.assertEqual(round_of(RINGS, "e", "e"), ["e"])

    def test_itself_not_alone(self):
        for name in "bcdfg":
            self.is_round(RINGS, name, name)

    def test_names_that_the_shelf_has_not(self):
        for one, other, lacking in (("x", "a", "x"), ("x", "x", "x"), ("a", "b", "y"), ("a", "a", "y")):
            with self.assertRaises(NoLibrary) as caught:
                round_of(needing(a="b y", b="a", c=""), one, other)
            self.assertEqual(caught.exception.name, lacking)

    def test_no_way_leads_from_the_first_to_what_lacks(self):
        self.assertIsNone(round_of(needing(a="y", b="", c=""), "b", "a"))
        self.assertIsNone(round_of(needing(a="", b=""), "a", "x"))

    def test_what_is_told_is_the_askers(self):
        for one, other in ("aa", "fg", "ff"):
            told = round_of(RINGS, one, other)
            ahead = list(told)
            told.append("x")
            self.assertEqual(round_of(RINGS, one, other), ahead)

    def test_by_chance(self):
        chance = random.Random(11)
        for _ in range(60):
            shelf = shelf_by_chance(chance, chance.randint(2, 8))
            ways = ways_in(shelf)
            for one, other in itertools.product(needs_in(shelf), repeat=2):
                if (one, other) not in ways or (other, one) not in ways:
                    self.assertIsNone(round_of(shelf, one, other))
                elif one == other and len(parts_of(shelf, one)[-1]) == 1:
                    self.assertEqual(round_of(shelf, one, one), [one])
                else:
                    self.is_round(shelf, one, other)


if __name__ == "__main__":
    unittest.main()
