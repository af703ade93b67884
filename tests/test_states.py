"""A hall's state, and what a library would turn (points 26 and 34)."""

import unittest

from latehall.errors import Closed, Ended, NoLibrary, NoWord
from latehall.halls import Hall
from samples import SMALL, needing, shelf_of, with_part

SHELF = shelf_of(
    "lib a | needs b | use x - cell | use y - may | cell n - c 3 | deed run - c ; call 1 ; add 0 1",
    "lib b | cell x - c 5 | cell w - c -1",
    "lib c | needs d | deed y - c ; tell 1",
    "lib d | cell x - c 7",
)


def only_tuples(thing):
    """Whether a thing has no lists and no dicts in it."""
    return all([only_tuples(part) for part in thing]) if isinstance(thing, tuple) else not isinstance(thing, (list, dict))


class States(unittest.TestCase):
    def state(self, hall, openings, standing, bound, cells, coming, shelf=SHELF, truths=(False, False), ahead=()):
        told = hall.state()
        libraries = {library[0]: library for library in SHELF}
        standing = tuple([(number, space, libraries[name]) for number, space, name in standing])
        self.assertEqual(told, (shelf, *truths, ahead, openings, standing, bound, cells, coming))
        self.assertIs(only_tuples(told), True)
        self.assertEqual([type(part) for part in told[1:3]], [bool, bool])

    def test_behind_every_kind_of_call(self):
        hall = Hall(SHELF, "a")
        self.state(hall, (), ((1, 0, "b"), (0, 0, "a")), ((0, 0, 1, 0),), ((0, 0, 3), (1, 0, 5), (1, 1, -1)), (2, 1))
        c = hall.bring("c", shared=True)
        stands = ((1, 0, "b"), (0, 0, "a"), (3, 0, "d"), (2, 0, "c"))
        cells = ((0, 0, 3), (1, 0, 5), (1, 1, -1), (3, 0, 7))
        self.state(hall, ((2, 1, True),), stands, ((0, 0, 1, 0),), cells, (4, 1))
        a = hall.bring("a")
        self.state(hall, ((2, 1, True), (0, 1, False)), stands, ((0, 0, 1, 0),), cells, (4, 1))
        hall.call(a, "run")
        bound, cells = ((0, 0, 1, 0), (0, 1, 2, 0)), ((0, 0, 3), (1, 0, 6), (1, 1, -1), (3, 0, 7))
        self.state(hall, ((2, 1, True), (0, 1, False)), stands, bound, cells, (4, 1))
        hall.drop(c)
        self.state(hall, ((0, 1, False),), stands, bound, cells, (4, 1))
        for call in (lambda: hall.look(a, "run"), lambda: hall.show(a, "x"), lambda: hall.hold(0), hall.told, hall.net):
            call()
            self.state(hall, ((0, 1, False),), stands, bound, cells, (4, 1))
        for kind, call in ((NoLibrary, lambda: hall.bring("q", apart=True)), (Closed, lambda: hall.drop(c)),
                           (NoWord, lambda: hall.call(a, "q"))):
            with self.assertRaises(kind):
                call()
            self.state(hall, ((0, 1, False),), stands, bound, cells, (4, 1))
        hall.bring("d", apart=True)
        self.state(hall, ((0, 1, False), (4, 1, False)), (*stands, (4, 1, "d")), bound, (*cells, (4, 0, 7)), (5, 2))
        extra = with_part("name", "e", SMALL)
        hall.shelve(extra)
        self.state(hall, ((0, 1, False), (4, 1, False)), (*stands, (4, 1, "d")), bound, (*cells, (4, 0, 7)), (5, 2),
                   (*SHELF, extra))
        hall.end()
        self.state(hall, (), (), (), (), (5, 2), (*SHELF, extra))
        with self.assertRaises(Ended):
            hall.end()
        self.state(hall, (), (), (), (), (5, 2), (*SHELF, extra))

    def test_truths_and_names_ahead(self):
        hall = Hall(SHELF, "d", ahead=("c", "b"), early=True, faint=True)
        self.state(hall, (), ((2, 0, "b"), (0, 0, "d"), (1, 0, "c")), (),
                   ((0, 0, 7), (2, 0, 5), (2, 1, -1)), (3, 1), truths=(True, True), ahead=("c", "b"))

    def test_what_stands_keeps_its_library(self):
        hall = Hall(SHELF, "a")
        changed = shelf_of("lib b | cell x - c 50")[0]
        hall.shelve(changed)
        self.state(hall, (), ((1, 0, "b"), (0, 0, "a")), ((0, 0, 1, 0),), ((0, 0, 3), (1, 0, 5), (1, 1, -1)), (2, 1),
                   (SHELF[0], changed, *SHELF[2:]))

    def test_openings_in_their_order(self):
        hall = Hall(needing(a="", b="", c=""), "a")
        holds = [hall.bring(name, shared=name == "b") for name in "cbaca"]
        self.assertEqual(hall.state()[4], ((1, 2, False), (2, 1, True), (0, 2, False)))
        hall.drop(holds[0])
        hall.drop(holds[0])
        hall.bring("c")
        self.assertEqual(hall.state()[4], ((2, 1, True), (0, 2, False), (3, 1, False)))


class Turned(unittest.TestCase):
    def turned(self, hall, text, told):
        ahead = hall.state()
        found = hall.turned_by(shelf_of(text)[0])
        self.assertEqual(found, told)
        self.assertIs(type(found), list)
        self.assertEqual(hall.state(), ahead)

    def test_a_library_of_the_shelf_as_it_is(self):
        hall = Hall(SHELF, "a")
        for library in SHELF:
            self.assertEqual(hall.turned_by(library), [])

    def test_a_give_that_is_not_there(self):
        hall = Hall(SHELF, "a")
        self.turned(hall, "lib b", [(0, 0, None)])
        self.turned(hall, "lib b | cell w - c -1 | cell x v - 5", [(0, 0, None)])
        self.turned(hall, "lib b | deed x - c", [(0, 0, None)])

    def test_a_give_at_another_number(self):
        hall = Hall(SHELF, "a")
        self.turned(hall, "lib b | cell w - c -1 | cell x - c 5", [(0, 0, (1, 1))])
        self.turned(hall, "lib b | cell x - c 99", [])
        self.turned(hall, "lib b | needs c | cell x - c 99", [])

    def test_another_instances_give(self):
        hall = Hall(SHELF, "a")
        hall.bring("d", shared=True)
        self.turned(hall, "lib b", [(0, 0, (2, 0))])
        self.turned(hall, "lib a | cell q - c 1 | cell x - c 1", [(0, 0, (0, 1))])
        self.turned(hall, "lib d", [])

    def test_names_that_are_not_there(self):
        hall = Hall(SHELF, "a")
        self.turned(hall, "lib q | cell x - c 1", [])
        self.turned(hall, "lib c | cell x - c 1", [])
        self.turned(hall, "lib d", [])

    def test_if_it_were_bound_now(self):
        # b is shared now, ahead of c by which x was bound: whatever library is asked for, that use would turn.
        shelf = shelf_of("lib a", "lib c | needs d | use x - cell", "lib d | cell x - c 1", "lib b | cell x - c 2")
        hall = Hall(shelf, "a")
        hall.bring("c")
        self.assertEqual(hall.means(1), [(2, 0)])
        self.turned(hall, "lib q", [])
        hall.bring("b", shared=True)
        self.turned(hall, "lib q", [(1, 0, (3, 0))])
        self.turned(hall, "lib b", [])
        self.turned(hall, "lib d", [(1, 0, (3, 0))])

    def test_what_is_not_bound_is_not_told(self):
        hall = Hall(SHELF, "a")
        hall.bring("c", shared=True)
        self.turned(hall, "lib c", [])
        hall.call(hall.bring("a"), "run")
        self.turned(hall, "lib c", [(0, 1, None)])

    def test_only_the_gives_are_exchanged(self):
        # Neither the marks nor the needs nor the uses of the new library count.
        shelf = shelf_of("lib a | needs b c | use x - cell", "lib b | cell x - c 1", "lib c | use x - cell | cell x - c 2",
                         "lib d | cell x - c 3")
        hall = Hall(shelf, "a")
        self.assertEqual((hall.means(0), hall.means(2)), ([(1, 0)], [(1, 0)]))
        self.turned(hall, "lib c own | needs d | use y - may | use z - may | cell x - c 2", [])
        self.turned(hall, "lib b", [(0, 0, (2, 0)), (2, 0, (2, 0))])

    def test_in_all_spaces_rising_by_instances_and_uses(self):
        shelf = shelf_of("lib a | needs b | use x - cell | use w - cell | use x - cell", "lib b | cell x - c 1 | cell w - c 2")
        hall = Hall(shelf, "a")
        hall.bring("a", apart=True)
        self.turned(hall, "lib b | cell w - c 0", [(0, 0, None), (0, 1, (1, 0)), (0, 2, None),
                                                   (2, 0, None), (2, 1, (3, 0)), (2, 2, None)])

    def test_faint_as_the_halls(self):
        shelf = shelf_of("lib a | needs b c | use x - cell", "lib b | cell x - c 1", "lib c | cell x - c 2")
        for faint, told in ((False, []), (True, [(0, 0, (2, 0))])):
            self.turned(Hall(shelf, "a", faint=faint), "lib b | cell x - cf 1", told)


if __name__ == "__main__":
    unittest.main()
