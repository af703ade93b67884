"""The walk of a library of a shelf (points 2 and 8)."""

import unittest

from latehall.errors import NoLibrary
from latehall.walks import walk_of
from samples import needing

SHELF = needing(a="b c", b="d", c="d e", d="f", e="a", f="", g="")


class Walks(unittest.TestCase):
    def told(self, shelf, name, walk, **more):
        told = walk_of(shelf, name, **more)
        self.assertEqual(told, walk)
        self.assertIs(type(told), list)

    def refused(self, shelf, name, lacking, **more):
        with self.assertRaises(NoLibrary) as caught:
            walk_of(shelf, name, **more)
        self.assertEqual(caught.exception.name, lacking)

    def test_a_library_that_needs_none(self):
        self.told(SHELF, "g", ["g"])
        self.told(needing(a=""), "a", ["a"])

    def test_breadth_first_each_name_once(self):
        self.told(SHELF, "a", ["a", "b", "c", "d", "e", "f"])
        self.told(SHELF, "c", ["c", "d", "e", "f", "a", "b"])
        self.told(needing(a="b c", b="x", c="y", x="", y="z", z=""), "a", ["a", "b", "c", "x", "y", "z"])

    def test_needs_in_the_librarys_order_not_the_shelfs(self):
        self.told(needing(a="", b="", c="b a"), "c", ["c", "b", "a"])

    def test_rings(self):
        ring = needing(a="b", b="c", c="a", d="a")
        self.told(ring, "a", ["a", "b", "c"])
        self.told(ring, "b", ["b", "c", "a"])
        self.told(ring, "d", ["d", "a", "b", "c"])

    def test_names_ahead_stand_first(self):
        self.told(SHELF, "g", ["g", "f", "d"], ahead=("f", "d"))
        self.told(SHELF, "a", ["a", "g", "b", "c", "d", "e", "f"], ahead=("g",))

    def test_then_its_own_needs_that_are_not_among_them(self):
        self.told(SHELF, "a", ["a", "c", "b", "d", "e", "f"], ahead=("c",))
        self.told(SHELF, "a", ["a", "f", "c", "b", "d", "e"], ahead=("f", "c"))

    def test_the_needs_of_others_stay_their_own(self):
        shelf = needing(a="b", b="a", c="", d="c")
        self.told(shelf, "a", ["a", "d", "b", "c"], ahead=("d",))
        self.told(shelf, "b", ["b", "c", "a"], ahead=("c",))

    def test_more_names_ahead_than_a_library_may_need(self):
        shelf = needing(a="h", b="", c="", d="", e="", f="", g="", h="")
        self.told(shelf, "a", ["a", "g", "f", "e", "d", "c", "b", "h"], ahead=tuple("gfedcb"))

    def test_a_name_asked_for_that_the_shelf_has_not(self):
        self.refused(SHELF, "x", "x")
        self.refused(SHELF, "x", "x", ahead=("y",))

    def test_a_need_that_the_shelf_has_not(self):
        self.refused(needing(a="b x", b=""), "a", "x")
        self.refused(needing(a="b", b="c", c="x"), "a", "x")
        self.told(needing(a="b x", b=""), "b", ["b"])

    def test_the_first_one_met(self):
        # By breadth: x and y are met by a, ahead of z, which is met by b.
        self.refused(needing(a="b x y", b="z"), "a", "x")
        self.refused(needing(a="b c", b="y", c="x"), "a", "y")
        self.refused(needing(a="b c", b="d", c="x", d="y"), "a", "x")

    def test_a_name_ahead_that_the_shelf_has_not(self):
        self.refused(SHELF, "a", "x", ahead=("g", "x"))
        self.refused(needing(a="x"), "a", "y", ahead=("y",))
        self.refused(needing(a="x y"), "a", "y", ahead=("y",))

    def test_what_is_told_is_the_askers(self):
        first = walk_of(SHELF, "a", ahead=("g",))
        first.append("x")
        first[0] = "y"
        self.told(SHELF, "a", ["a", "g", "b", "c", "d", "e", "f"], ahead=("g",))
        self.told(SHELF, "a", ["a", "b", "c", "d", "e", "f"])


if __name__ == "__main__":
    unittest.main()
