"""How a library comes, what is refused, firsts (points 16 and 17)."""

import unittest

from latehall.errors import NoLibrary, Unmet
from latehall.halls import Hall
from samples import needing, shelf_of


def firsts(**needs):
    """A shelf whose firsts each tell the place of their name in the alphabet."""
    return tuple([(*library[:4], (("tell", ord(library[0]) - 96),), (), ()) for library in needing(**needs)])


def begun(told):
    return "".join([chr(what + 96) for _, what in told])


class Coming(unittest.TestCase):
    def test_those_that_do_not_stand_come_numbered_on_by_the_walk(self):
        hall = Hall(needing(a="b", b="", c="d b e", d="a f", e="", f=""), "a")
        hold = hall.bring("c")
        self.assertEqual((hold.number, hold.name), (2, "c"))
        self.assertEqual(hall.stands(), [(0, 0, "a"), (1, 0, "b"), (2, 0, "c"), (3, 0, "d"), (4, 0, "e"), (5, 0, "f")])

    def test_a_name_that_stands_is_that_of_its_instance(self):
        hall = Hall(needing(a="b", b="", c=""), "a")
        hold = hall.bring("b")
        self.assertEqual((hold.number, hold.name, len(hall)), (1, "b", 2))
        self.assertEqual(hall.state()[4], ((1, 1, False),))

    def test_what_stands_has_its_own_needs_others_the_shelfs(self):
        hall = Hall(needing(a="b", b="c", c="", d="b", e=""), "a")
        hall.shelve(needing(b="e")[0])
        hall.shelve(needing(d="b e")[0])
        hall.bring("d")
        self.assertEqual(hall.stands()[3:], [(3, 0, "d"), (4, 0, "e")])
        self.assertEqual(hall.walk(3), [3, 1, 4, 2])
        hall.bring("b", apart=True)
        self.assertEqual(hall.stands()[5:], [(5, 1, "b"), (6, 1, "e")])

    def test_numbers_go_on_behind_what_went(self):
        hall = Hall(needing(a="", b="", c=""), "a")
        hall.drop(hall.bring("b"))
        self.assertEqual(hall.bring("b").number, 2)
        hall.drop(hall.hold(2))
        self.assertEqual(hall.bring("c").number, 3)
        self.assertEqual(hall.state()[8], (4, 1))

    def test_apart_is_a_new_space_numbered_on(self):
        hall = Hall(needing(a="", b=""), "a")
        hall.bring("b", apart=True)
        hall.drop(hall.bring("a", apart=True))
        hall.bring("b", apart=True)
        self.assertEqual(hall.stands(), [(0, 0, "a"), (1, 1, "b"), (3, 3, "b")])
        self.assertEqual(hall.state()[8], (4, 4))

    def test_an_apart_that_is_refused_takes_no_space(self):
        hall = Hall(shelf_of("lib a", "lib b | use x - cell"), "a")
        for name, kind in (("b", Unmet), ("z", NoLibrary)):
            with self.assertRaises(kind):
                hall.bring(name, apart=True)
        self.assertEqual(hall.bring("a", apart=True).number, 1)
        self.assertEqual(hall.stands(), [(0, 0, "a"), (1, 1, "a")])

    def test_cells_are_an_instances_own(self):
        shelf = shelf_of("lib a | cell x - c 1 | deed d - c | cell y - c -2")
        hall = Hall(shelf, "a")
        other = hall.bring("a", apart=True)
        self.assertEqual([hall.cells_of(0), hall.cells_of(other.number)], [{0: 1, 2: -2}] * 2)

    def test_it_keeps_the_library_that_the_shelf_had_as_it_came(self):
        hall = Hall(shelf_of("lib a | cell x - c 1"), "a")
        hall.shelve(shelf_of("lib a | cell y - c 2 | cell x - c 3")[0])
        self.assertEqual(hall.cells_of(0), {0: 1})
        self.assertEqual(hall.cells_of(hall.bring("a", apart=True).number), {0: 2, 1: 3})


class Refused(unittest.TestCase):
    SHELF = shelf_of(
        "lib a | needs b | deed y - c",
        "lib b",
        "lib c | needs d | use y - may | first ; tell 1",
        "lib d | use y - must | use x - cell | use z - cell",
        "lib e | needs c q r | use x - cell",
        "lib f | needs b | use w - must",
        "lib g | needs b | use y - must | use w - may",
        "lib h | needs f | use v - may",
    )

    def refused(self, hall, kind, fields, *told, **more):
        ahead = (hall.state(), hall.told(), hall.gone(), hall.net())
        with self.assertRaises(kind) as caught:
            hall.bring(*told, **more)
        self.assertEqual(tuple(vars(caught.exception).values()), fields)
        self.assertEqual((hall.state(), hall.told(), hall.gone(), hall.net()), ahead)

    def test_no_library(self):
        hall = Hall(self.SHELF, "a")
        self.refused(hall, NoLibrary, ("z",), "z")
        self.refused(hall, NoLibrary, ("q",), "e")
        self.refused(hall, NoLibrary, ("q",), "e", shared=True, early=True, apart=True)

    def test_unmet(self):
        hall = Hall(self.SHELF, "a")
        self.refused(hall, Unmet, ("d", "x"), "c")
        self.refused(hall, Unmet, ("d", "x"), "c", shared=True)
        self.refused(hall, Unmet, ("d", "x"), "c", early=True)
        # Apart the main's y isn't in the scope; late it isn't to be bound.
        self.refused(hall, Unmet, ("d", "y"), "c", early=True, apart=True)
        self.refused(hall, Unmet, ("d", "x"), "c", apart=True)

    def test_early_refuses_a_must_and_no_may(self):
        hall = Hall(self.SHELF, "a")
        self.refused(hall, Unmet, ("f", "w"), "f", early=True)
        self.refused(hall, Unmet, ("f", "w"), "h", early=True)
        self.assertEqual(hall.means(hall.bring("g", early=True).number), [(0, 0), None])
        self.assertEqual(hall.means(hall.bring("f").number), [None])
        hall = Hall(self.SHELF, "a", early=True)
        self.refused(hall, Unmet, ("f", "w"), "f")

    def test_what_stands_is_not_bound_again(self):
        hall = Hall(self.SHELF, "a")
        hall.bring("f")
        hall.bring("f", early=True)
        hall.bring("h", early=True)
        self.assertEqual(hall.means(2), [None])

    def test_the_opening_of_what_is_refused_does_not_count(self):
        hall = Hall(self.SHELF, "a")
        hall.bring("b", shared=True)
        self.refused(hall, Unmet, ("d", "x"), "c", shared=True)
        self.assertEqual(hall.held(), [1])
        self.assertEqual(hall.all_of(0), [0, 1])
        self.assertEqual(hall.bring("g").number, 2)

    def test_a_use_may_mean_what_comes_by_its_own_bring(self):
        shelf = shelf_of("lib a", "lib b | needs c | use x - cell", "lib c | cell x - c 1",
                         "lib d | needs e f | cell x - c 1", "lib e | use x - cell", "lib f")
        hall = Hall(shelf, "a")
        self.assertEqual(hall.means(hall.bring("b").number), [(2, 0)])
        self.refused(hall, Unmet, ("e", "x"), "d")
        self.assertEqual(hall.means(hall.bring("d", shared=True).number + 1), [(3, 0)])


class Firsts(unittest.TestCase):
    def test_in_the_order_of_beginnings(self):
        shelf = firsts(a="d b", b="c", c="d e", d="b f", e="", f="g", g="f")
        hall = Hall(shelf, "a")
        self.assertEqual(begun(hall.told()), "fgedbca")
        names = {number: name for number, _, name in hall.stands()}
        self.assertEqual("".join([names[number] for number in hall.beginning()]), "fgedbca")

    def test_only_those_that_are_not_begun(self):
        hall = Hall(firsts(a="b", b="", c="b d", d="a"), "a")
        self.assertEqual(begun(hall.told()), "ba")
        hall.bring("c")
        self.assertEqual(begun(hall.told()), "badc")
        hall.bring("c")
        hall.bring("a")
        self.assertEqual(begun(hall.told()), "badc")
        self.assertEqual(hall.beginning(), [1, 0, 3, 2])

    def test_where_a_first_brings_others(self):
        shelf = shelf_of("lib a | needs b | first ; tell 1 ; bring c ; tell 2", "lib b | first ; tell 3",
                         "lib c | needs d b | first ; tell 4", "lib d | first ; tell 5")
        hall = Hall(shelf, "a")
        self.assertEqual(hall.told(), [(1, 3), (0, 1), (3, 5), (2, 4), (0, 2)])
        self.assertEqual(hall.beginning(), [1, 0, 3, 2])
        self.assertEqual(hall.held(), [2])

    def test_a_bring_in_a_first_begins_what_came_by_the_outer_one(self):
        # By the outer order c comes ahead of d and e, but the first of c brings e, which needs d.
        shelf = shelf_of("lib a | needs c d e | first ; tell 1", "lib c | first ; tell 3 ; bring e ; tell 33",
                         "lib d | first ; tell 4", "lib e | needs d | first ; tell 5")
        hall = Hall(shelf, "a")
        self.assertEqual([what for _, what in hall.told()], [3, 4, 5, 33, 1])
        self.assertEqual(hall.beginning(), [1, 2, 3, 0])

    def test_an_instance_is_begun_as_its_first_is_started(self):
        # The ring's second library brings the first, whose first is under way: it isn't begun twice.
        shelf = shelf_of("lib a | needs b | first ; tell 1 ; bring b ; tell 2",
                         "lib b | needs a | first ; tell 3 ; bring a ; tell 4")
        hall = Hall(shelf, "a")
        self.assertEqual(hall.told(), [(0, 1), (1, 3), (1, 4), (0, 2)])
        self.assertEqual(hall.beginning(), [0, 1])
        self.assertEqual(hall.held(), [1, 0])

    def test_a_first_calls_what_is_not_begun(self):
        shelf = shelf_of("lib a | needs b | use y - may | first ; call 0",
                         "lib b | needs a | deed y - c ; tell 1 | first ; tell 2")
        self.assertEqual(Hall(shelf, "a").told(), [(1, 1), (1, 2)])

    def test_a_first_that_brings_and_drops(self):
        shelf = shelf_of("lib a | first ; bring b ; drop b ; tell 1", "lib b | first ; tell 2 | last ; tell 3")
        hall = Hall(shelf, "a")
        self.assertEqual(hall.told(), [(1, 2), (0, 1), (1, 3)])
        self.assertEqual(hall.gone(), ([1], (2, [0], [])))
        self.assertEqual(hall.stands(), [(0, 0, "a")])

    def test_what_drops_itself_in_its_first_is_gone_behind_the_bring(self):
        shelf = shelf_of("lib a", "lib b | first ; drop b | last ; tell 3")
        hall = Hall(shelf, "a")
        hold = hall.bring("b")
        self.assertEqual((hold.number, hold.name), (1, "b"))
        self.assertEqual((hall.stands(), hall.held()), ([(0, 0, "a")], []))
        self.assertEqual(hall.told(), [(1, 3)])
        self.assertEqual(hall.bring("b").number, 2)

    def test_a_refused_bring_begins_nothing(self):
        shelf = shelf_of("lib a", "lib b | needs c | first ; tell 1", "lib c | use x - cell | first ; tell 2")
        hall = Hall(shelf, "a")
        with self.assertRaises(Unmet):
            hall.bring("b")
        self.assertEqual(hall.told(), [])

    def test_each_first_is_done_once(self):
        names = "abcdefgh"
        needs = {name: " ".join([other for other in names if other != name][:6]) for name in names}
        told = begun(Hall(firsts(**needs), "a").told())
        self.assertEqual(sorted(told), sorted(set(told)))


if __name__ == "__main__":
    unittest.main()
