"""How a hall is made: names ahead, early, faint, and what is refused (points 13 to 17)."""

import unittest

from latehall.errors import NoLibrary, Unmet
from latehall.halls import Hall
from samples import SMALL, needing, shelf_of

# a means x, and calls y late; b and c give both, those of b faint.
GIVING = shelf_of(
    "lib a | needs b c | use x - cell | use y - may | deed run - c ; show 0 ; call 1",
    "lib b | cell x - cf 1 | deed y - cf ; tell 10",
    "lib c | cell x - c 2 | deed y - c ; tell 20",
    "lib d | cell x - c 3 | deed y - c ; tell 30",
)


class Making(unittest.TestCase):
    def refused(self, kind, fields, shelf, *told, **more):
        with self.assertRaises(kind) as caught:
            Hall(shelf, *told, **more)
        self.assertEqual(tuple(vars(caught.exception).values()), fields)

    def test_the_main_alone(self):
        hall = Hall((SMALL,), "a")
        self.assertEqual(hall.stands(), [(0, 0, "a")])
        self.assertEqual(len(hall), 1)
        self.assertEqual(hall.beginning(), [0])
        self.assertEqual((hall.held(), hall.told(), hall.means(0), hall.cells_of(0)), ([], [], [], {}))
        self.assertEqual(hall.walk(0), [0])
        self.assertEqual(hall.scope(0), [0])
        self.assertEqual(hall.all_of(0), [0])
        self.assertEqual(hall.all_of(1), [])

    def test_it_comes_with_its_walk(self):
        hall = Hall(needing(a="b c", b="d", c="d", d="", e=""), "a")
        self.assertEqual(hall.stands(), [(0, 0, "a"), (1, 0, "b"), (2, 0, "c"), (3, 0, "d")])
        self.assertEqual(hall.walk(0), [0, 1, 2, 3])
        self.assertEqual(hall.beginning(), [3, 1, 2, 0])
        self.assertEqual(hall.held(), [])

    def test_the_main_need_not_be_the_shelfs_first(self):
        hall = Hall(needing(a="", b="a", c=""), "b")
        self.assertEqual(hall.stands(), [(0, 0, "b"), (1, 0, "a")])

    def test_names_ahead(self):
        shelf = needing(a="b c", b="", c="", d="e", e="")
        hall = Hall(shelf, "a", ahead=("d", "c"))
        self.assertEqual(hall.stands(), [(0, 0, "a"), (1, 0, "d"), (2, 0, "c"), (3, 0, "b"), (4, 0, "e")])
        self.assertEqual(hall.walk(0), [0, 1, 2, 3, 4])
        self.assertEqual(hall.beginning(), [2, 3, 4, 1, 0])
        self.assertEqual(Hall(shelf, "a", ahead=()).state(), Hall(shelf, "a").state())

    def test_names_ahead_are_the_mains_needs_in_all_points(self):
        shelf = needing(a="", b="", c="a")
        hall = Hall(shelf, "a", ahead=("b",))
        self.assertEqual(hall.net(), (2, [0], [(0, 1)]))
        hall.bring("c")
        self.assertEqual(hall.walk(2), [2, 0, 1])
        self.assertEqual(hall.why(1), ("main", [0, 1]))
        hall.drop(hall.bring("b"))
        self.assertEqual(hall.gone()[0], [])

    def test_names_ahead_that_make_a_ring(self):
        hall = Hall(needing(a="b", b="", c="a"), "a", ahead=("c",))
        self.assertEqual(hall.stands(), [(0, 0, "a"), (1, 0, "c"), (2, 0, "b")])
        # c needs a, which needs c: they are one part, behind b.
        self.assertEqual(hall.beginning(), [2, 0, 1])

    def test_names_ahead_are_not_anothers_needs(self):
        hall = Hall(needing(a="b", b="", c=""), "a", ahead=("c",))
        hall.bring("a", apart=True)
        self.assertEqual(hall.stands(), [(0, 0, "a"), (1, 0, "c"), (2, 0, "b"), (3, 1, "a"), (4, 1, "b")])

    def test_names_ahead_and_the_scope(self):
        self.assertEqual(Hall(GIVING, "a").means(0), [(1, 0), None])
        self.assertEqual(Hall(GIVING, "a", ahead=("c",)).means(0), [(1, 0), None])
        self.assertEqual(Hall(GIVING, "a", ahead=("c",)).stands()[1], (1, 0, "c"))
        self.assertEqual(Hall(GIVING, "a", ahead=("d", "b")).means(0), [(1, 0), None])
        self.assertEqual(Hall(GIVING, "a", ahead=("d", "b")).stands()[1], (1, 0, "d"))

    def test_late_and_early(self):
        self.assertEqual(Hall(GIVING, "a").means(0), [(1, 0), None])
        self.assertEqual(Hall(GIVING, "a", early=False).means(0), [(1, 0), None])
        self.assertEqual(Hall(GIVING, "a", early=True).means(0), [(1, 0), (1, 1)])

    def test_faint(self):
        self.assertEqual(Hall(GIVING, "a", faint=False, early=True).means(0), [(1, 0), (1, 1)])
        self.assertEqual(Hall(GIVING, "a", faint=True).means(0), [(2, 0), None])
        self.assertEqual(Hall(GIVING, "a", faint=True, early=True).means(0), [(2, 0), (2, 1)])

    def test_the_firsts_of_the_making_are_told(self):
        shelf = shelf_of("lib a | needs b | first ; tell 1", "lib b | needs a c | first ; tell 2",
                         "lib c | first ; tell 3")
        self.assertEqual(Hall(shelf, "a").told(), [(2, 3), (0, 1), (1, 2)])
        self.assertEqual(Hall(shelf, "b").told(), [(2, 3), (0, 2), (1, 1)])

    def test_refused_with_the_first_name_met(self):
        shelf = needing(a="b c", b="y", c="x")
        self.refused(NoLibrary, ("z",), shelf, "z")
        self.refused(NoLibrary, ("z",), shelf, "z", ahead=("v",))
        self.refused(NoLibrary, ("y",), shelf, "a")
        self.refused(NoLibrary, ("x",), shelf, "a", ahead=("c",))
        self.refused(NoLibrary, ("v",), shelf, "a", ahead=("c", "v"))

    def test_refused_with_the_first_use_without_meaning(self):
        shelf = shelf_of("lib a | needs b", "lib b | needs c | use x - cell", "lib c | use y - cell | use z - cell")
        self.refused(Unmet, ("b", "x"), shelf, "a")
        self.refused(Unmet, ("b", "x"), shelf, "b")
        self.refused(Unmet, ("c", "y"), shelf, "c")
        self.refused(Unmet, ("c", "y"), shelf, "a", ahead=("c",))

    def test_of_two_refusals_the_one_told_first(self):
        shelf = shelf_of("lib a | needs b | use x - cell")
        self.refused(NoLibrary, ("b",), shelf, "a")

    def test_a_must_is_refused_where_it_is_bound_as_it_comes(self):
        late = shelf_of("lib a | use x - must")
        early = shelf_of("lib a early | use x - must")
        may = shelf_of("lib a early | use x - may")
        Hall(late, "a")
        self.refused(Unmet, ("a", "x"), late, "a", early=True)
        self.refused(Unmet, ("a", "x"), early, "a")
        self.assertEqual(Hall(may, "a", early=True).means(0), [None])

    def test_what_is_handed_in_is_not_kept(self):
        hall = Hall(GIVING, "a", ahead=("d",))
        for told in (hall.told(), hall.stands(), hall.beginning(), hall.walk(0), hall.scope(0), hall.all_of(0),
                     hall.means(0), hall.net()[1], hall.net()[2], hall.gone()[0], hall.gone()[1][1], hall.gone()[1][2],
                     hall.why(1)[1], hall.turned_by(GIVING[1])):
            self.assertIs(type(told), list)
        self.assertEqual(hall.state(), Hall(GIVING, "a", ahead=("d",)).state())

    def test_two_halls_of_a_shelf_have_nothing_in_common(self):
        one, other = Hall(GIVING, "a"), Hall(GIVING, "a")
        ahead = other.state()
        one.bring("d", shared=True)
        one.call(one.bring("a"), "run")
        one.shelve(SMALL)
        self.assertEqual(other.state(), ahead)
        self.assertEqual(other.told(), [])


if __name__ == "__main__":
    unittest.main()
