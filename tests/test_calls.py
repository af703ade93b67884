"""Calls from outside: bring, drop, hold, look, call, show, shelve, told, len, end (points 20, 21)."""

import unittest

from latehall.errors import Closed, Ended, Full, NoLibrary, NoWord, Unmet
from latehall.halls import Hall
from latehall.holds import Hold
from samples import SMALL, THINGS, needing, nested, shelf_of, with_part

SHELF = shelf_of(
    "lib a | needs b | use n - cell | cell n - c 5 | deed run - c ; add 0 1 ; show 0",
    "lib b | deed run old - ; tell 2 | deed run new cf ; tell 3 | cell size - c 7",
    "lib c | needs d | deed go - c ; tell 4 | cell x v - 8",
    "lib d | deed go - c ; tell 5 | deed stop - cf ; tell 6 | cell x v c 9 | cell x w - 10",
)


def asks(hall):
    """All that a hall may be asked."""
    told = [hall.state(), hall.told(), hall.stands(), hall.held(), hall.beginning(), hall.net(), hall.gone(), len(hall)]
    for number, space, _ in hall.stands():
        told += [hall.walk(number), hall.scope(number), hall.all_of(space), hall.means(number), hall.cells_of(number),
                 hall.why(number)]
    return told


class Calls(unittest.TestCase):
    def setUp(self):
        self.hall = Hall(SHELF, "a")

    def refused(self, kind, fields, call, *told, **more):
        """A call is refused, and changes nothing."""
        ahead = asks(self.hall)
        with self.assertRaises(kind) as caught:
            call(*told, **more)
        self.assertEqual(tuple(vars(caught.exception).values()), fields)
        self.assertEqual(asks(self.hall), ahead)


class Brings(Calls):
    def test_told_is_a_hold(self):
        hold = self.hall.bring("c")
        self.assertIsInstance(hold, Hold)
        self.assertEqual((hold.number, hold.name), (2, "c"))

    def test_brought_twice_dropped_as_often(self):
        c = self.hall.bring("c")
        self.assertTrue(self.hall.bring("c") == c)
        self.assertEqual(self.hall.state()[4], ((2, 2, False),))
        self.assertIsNone(self.hall.drop(c))
        self.assertEqual(self.hall.state()[4], ((2, 1, False),))
        self.assertEqual(len(self.hall), 4)
        self.hall.drop(c)
        self.assertEqual((self.hall.state()[4], len(self.hall)), ((), 2))
        self.refused(Closed, (), self.hall.drop, c)

    def test_held_in_the_order_by_when_each_came_to_be_held_last(self):
        hall = self.hall
        c, b, a = hall.bring("c"), hall.bring("b"), hall.bring("a")
        self.assertEqual(hall.held(), [2, 1, 0])
        hall.bring("c")
        self.assertEqual(hall.held(), [2, 1, 0])
        hall.drop(c)
        hall.drop(b)
        self.assertEqual(hall.held(), [2, 0])
        hall.bring("b")
        self.assertEqual(hall.held(), [2, 0, 1])
        hall.drop(a)
        hall.bring("a")
        self.assertEqual(hall.held(), [2, 1, 0])

    def test_shared_from_now_on(self):
        c = self.hall.bring("c")
        self.hall.bring("c", shared=True)
        self.hall.bring("c", shared=False)
        self.assertEqual(self.hall.state()[4], ((2, 3, True),))
        self.hall.drop(c)
        self.hall.drop(c)
        self.assertEqual(self.hall.state()[4], ((2, 1, True),))

    def test_no_longer_shared_at_a_count_of_0(self):
        d = self.hall.bring("d", shared=True)
        c = self.hall.bring("c")
        self.hall.drop(d)
        self.assertEqual(self.hall.state()[4], ((3, 1, False),))
        self.hall.bring("d")
        self.assertEqual(self.hall.state()[4], ((3, 1, False), (2, 1, False)))
        self.assertEqual((c.number, d.number), (3, 2))

    def test_apart(self):
        c, other, third = self.hall.bring("c"), self.hall.bring("c", apart=True), self.hall.bring("c", apart=True)
        self.assertEqual(self.hall.stands()[2:], [(2, 0, "c"), (3, 0, "d"), (4, 1, "c"), (5, 1, "d"), (6, 2, "c"),
                                                  (7, 2, "d")])
        self.assertTrue(c != other and other != third)
        self.hall.drop(other)
        self.assertEqual(self.hall.held(), [2, 6])

    def test_refusals(self):
        self.refused(NoLibrary, ("z",), self.hall.bring, "z")
        self.hall.shelve(shelf_of("lib c | needs d | use q - cell")[0])
        self.refused(Unmet, ("c", "q"), self.hall.bring, "c")
        self.assertEqual(self.hall.bring("d").number, 2)


class Holds(Calls):
    def test_by_number(self):
        c = self.hall.bring("c")
        hold = self.hall.hold(2)
        self.assertIsInstance(hold, Hold)
        self.assertEqual((hold.number, hold.name), (2, "c"))
        self.assertTrue(hold == c)
        self.assertFalse(hold != c)

    def test_of_two_halls_and_of_two_instances(self):
        other = Hall(SHELF, "a")
        c, d = self.hall.bring("c"), self.hall.bring("d")
        theirs = other.bring("c")
        self.assertEqual((theirs.number, theirs.name), (c.number, c.name))
        self.assertTrue(c != theirs and not c == theirs)
        self.assertTrue(c != d and not c == d)

    def test_of_other_things(self):
        c = self.hall.bring("c")
        for thing in (2, "c", None, (2, "c"), [c], self.hall):
            self.assertFalse(c == thing)
            self.assertTrue(c != thing)
            self.assertFalse(thing == c)

    def test_an_instance_that_came_again_is_another_one(self):
        c = self.hall.bring("c")
        self.hall.drop(c)
        again = self.hall.bring("c")
        self.assertTrue(c != again)
        self.assertEqual((c.number, again.number), (2, 4))
        self.refused(Closed, (), self.hall.look, c, "go")

    def test_closed_for_what_is_not_held(self):
        self.hall.bring("c")
        for number in (0, 1, 3, 4, 9, -1, 10 ** 29):
            self.refused(Closed, (), self.hall.hold, number)

    def test_closed_for_any_thing(self):
        self.hall.bring("a")
        self.hall.bring("b")
        for thing in THINGS + [nested(20), [0] * 9999, "0", "b", (0,), [1], {0: 1}]:
            if type(thing) is not int or thing not in (0, 1):
                self.refused(Closed, (), self.hall.hold, thing)
        self.assertEqual([self.hall.hold(number).name for number in (0, 1)], ["a", "b"])

    def test_good_whenever_the_instance_is_held(self):
        d = self.hall.bring("d")
        c = self.hall.bring("c")
        self.hall.drop(d)
        for call in (lambda: self.hall.drop(d), lambda: self.hall.look(d, "go"), lambda: self.hall.call(d, "go"),
                     lambda: self.hall.show(d, "x"), lambda: self.hall.hold(2)):
            self.refused(Closed, (), call)
        # It stands by c, so it is the same instance; so is one that a row brings.
        self.assertTrue(self.hall.bring("d") == d)
        self.assertEqual(self.hall.show(d, "x"), 9)
        self.hall.drop(d)
        self.hall.drop(c)
        self.refused(Closed, (), self.hall.drop, c)

    def test_good_when_a_row_brings_it_again(self):
        shelf = shelf_of("lib a | needs b | deed run - c ; bring b", "lib b | cell x - c 1")
        hall = Hall(shelf, "a")
        b = hall.bring("b")
        hall.drop(b)
        hall.call(hall.bring("a"), "run")
        self.assertEqual(hall.show(b, "x"), 1)

    def test_another_halls_hold(self):
        other = Hall(SHELF, "a")
        theirs = other.bring("b")
        self.hall.bring("b")
        for call in (self.hall.drop, lambda hold: self.hall.look(hold, "size", cell=True),
                     lambda hold: self.hall.call(hold, "run"), lambda hold: self.hall.show(hold, "size")):
            self.refused(Closed, (), call, theirs)
        self.assertEqual(other.show(theirs, "size"), 7)


class Looks(Calls):
    def test_in_the_walk_of_the_holds_instance(self):
        a, c, d = self.hall.bring("a"), self.hall.bring("c"), self.hall.bring("d", shared=True)
        self.assertEqual(self.hall.look(a, "run"), (0, 1))
        self.assertEqual(self.hall.look(a, "size", cell=True), (1, 2))
        self.assertIsNone(self.hall.look(a, "go"))
        self.assertEqual(self.hall.look(c, "go"), (2, 0))
        self.assertEqual(self.hall.look(d, "go"), (3, 0))
        self.assertEqual(self.hall.look(c, "stop"), (3, 1))
        self.assertIsNone(self.hall.look(c, "run"))

    def test_version_and_cell(self):
        a, c = self.hall.bring("a"), self.hall.bring("c")
        self.assertEqual(self.hall.look(a, "run", version="old"), (0, 1))
        b = self.hall.bring("b")
        self.assertEqual(self.hall.look(b, "run"), (1, 1))
        self.assertEqual(self.hall.look(b, "run", version="old"), (1, 0))
        self.assertEqual(self.hall.look(b, "run", version="new", cell=False), (1, 1))
        self.assertIsNone(self.hall.look(b, "run", version="x"))
        self.assertIsNone(self.hall.look(b, "run", cell=True))
        self.assertIsNone(self.hall.look(b, "size"))
        self.assertEqual(self.hall.look(c, "x", cell=True), (3, 2))
        self.assertEqual(self.hall.look(c, "x", version="v", cell=True), (2, 1))
        self.assertEqual(self.hall.look(c, "x", version="w", cell=True), (3, 3))

    def test_faint_as_the_halls(self):
        shelf = shelf_of("lib a | needs b | deed y - cf ; tell 1 | cell x - cf 1",
                         "lib b | deed y - c ; tell 2 | cell x - c 2")
        for faint, place in ((False, 0), (True, 1)):
            hall = Hall(shelf, "a", faint=faint)
            a = hall.bring("a")
            self.assertEqual(hall.look(a, "y"), (place, 0))
            self.assertEqual(hall.look(a, "x", cell=True), (place, 1))
            self.assertEqual(hall.show(a, "x"), place + 1)
            hall.call(a, "y")
            self.assertEqual(hall.told(), [(place, place + 1)])

    def test_it_binds_nothing(self):
        shelf = shelf_of("lib a | use y - may | deed y - c")
        hall = Hall(shelf, "a")
        hall.look(hall.bring("a"), "y")
        self.assertEqual(hall.means(0), [None])


class CallsAndShows(Calls):
    def test_call(self):
        a, b = self.hall.bring("a"), self.hall.bring("b")
        self.assertIsNone(self.hall.call(a, "run"))
        self.hall.call(a, "run")
        self.hall.call(b, "run")
        self.hall.call(b, "run", version="old")
        self.assertEqual(self.hall.told(), [(0, 6), (0, 7), (1, 3), (1, 2)])
        self.assertEqual(self.hall.cells_of(0), {0: 7})

    def test_show_is_told_to_the_asker(self):
        a, c = self.hall.bring("a"), self.hall.bring("c")
        self.hall.call(a, "run")
        ahead = self.hall.told()
        self.assertEqual(self.hall.show(a, "n"), 6)
        self.assertEqual(self.hall.show(a, "size"), 7)
        self.assertEqual(self.hall.show(c, "x"), 9)
        self.assertEqual(self.hall.show(c, "x", version="v"), 8)
        self.assertEqual(self.hall.show(c, "x", version="w"), 10)
        self.assertEqual(self.hall.told(), ahead)

    def test_no_word(self):
        a, c = self.hall.bring("a"), self.hall.bring("c")
        self.refused(NoWord, ("go",), self.hall.call, a, "go")
        self.refused(NoWord, ("size",), self.hall.call, a, "size")
        self.refused(NoWord, ("x",), self.hall.call, c, "x")
        self.refused(NoWord, ("run",), self.hall.show, a, "run")
        self.refused(NoWord, ("x",), self.hall.show, c, "x", version="z")
        self.hall.drop(a)
        self.refused(Closed, (), self.hall.call, a, "go")
        self.refused(Closed, (), self.hall.show, a, "run")


class Shelves(Calls):
    def test_in_the_place_of_the_one_with_its_name(self):
        library = shelf_of("lib b | cell size - c 70")[0]
        self.assertIsNone(self.hall.shelve(library))
        self.assertEqual(self.hall.state()[0], (SHELF[0], library, *SHELF[2:]))
        self.assertEqual(self.hall.show(self.hall.bring("b"), "size"), 7)
        self.assertEqual(self.hall.show(self.hall.bring("b", apart=True), "size"), 70)

    def test_behind_the_others(self):
        library = with_part("name", "e", SMALL)
        self.hall.shelve(library)
        self.assertEqual(self.hall.state()[0], (*SHELF, library))
        self.assertEqual(self.hall.bring("e").number, 2)

    def test_the_thirteenth(self):
        for name in "efghijkl":
            self.hall.shelve(with_part("name", name, SMALL))
        self.assertEqual(len(self.hall.state()[0]), 12)
        self.refused(Full, (), self.hall.shelve, with_part("name", "m", SMALL))
        changed = with_part("marks", ("own",), with_part("name", "l", SMALL))
        self.hall.shelve(changed)
        self.assertEqual(self.hall.state()[0][11], changed)
        self.refused(Full, (), self.hall.shelve, with_part("name", "m", SMALL))

    def test_behind_the_end(self):
        self.hall.end()
        self.hall.shelve(with_part("name", "e", SMALL))
        self.assertEqual(len(self.hall.state()[0]), 5)


class Told(Calls):
    def test_all_that_was_told(self):
        a = self.hall.bring("a")
        self.assertEqual(self.hall.told(), [])
        self.hall.call(a, "run")
        self.assertEqual(self.hall.told(), [(0, 6)])
        self.hall.call(a, "run")
        self.assertEqual(self.hall.told(), [(0, 6), (0, 7)])
        self.hall.told().clear()
        self.assertEqual(self.hall.told(), [(0, 6), (0, 7)])

    def test_len(self):
        self.assertEqual(len(self.hall), 2)
        c = self.hall.bring("c")
        self.assertEqual(len(self.hall), 4)
        self.hall.bring("c", apart=True)
        self.assertEqual(len(self.hall), 6)
        self.hall.drop(c)
        self.assertEqual(len(self.hall), 4)
        self.hall.end()
        self.assertEqual(len(self.hall), 0)

    def test_what_is_told_of_cells_is_the_askers(self):
        told = self.hall.cells_of(0)
        told[0] = 9
        told[5] = 1
        self.assertEqual(self.hall.cells_of(0), {0: 5})
        self.assertIs(type(told), dict)

    def test_asking_changes_nothing(self):
        self.hall.bring("c", shared=True)
        ahead = asks(self.hall)
        self.assertEqual(asks(self.hall), ahead)
        self.hall.turned_by(SHELF[3])
        self.hall.why(9)
        self.hall.all_of(9)
        c = self.hall.hold(2)
        self.hall.look(c, "go")
        self.hall.show(c, "x")
        self.assertEqual(asks(self.hall), ahead)


class Ends(Calls):
    def test_all_that_stands_goes(self):
        texts = ("lib a | needs b | last ; tell 1", "lib b | last ; tell 2", "lib c stays | last ; tell 3",
                 "lib d | last ; tell 4")
        hall = Hall(shelf_of(*texts), "a")
        hall.bring("c")
        hall.bring("d", shared=True)
        hall.bring("d", apart=True)
        self.assertIsNone(hall.end())
        self.assertEqual(hall.told(), [(4, 4), (3, 4), (2, 3), (0, 1), (1, 2)])
        self.assertEqual((hall.stands(), hall.held(), hall.beginning(), hall.all_of(0)), ([], [], [], []))
        self.assertEqual(hall.net(), (5, [], []))
        self.assertEqual(hall.gone(), ([4, 3, 2, 0, 1], (5, [], [(0, 1)])))

    def test_behind_it_bring_and_end_are_refused_ahead_of_all(self):
        a = self.hall.bring("a")
        self.hall.end()
        self.refused(Ended, (), self.hall.bring, "b")
        self.refused(Ended, (), self.hall.bring, "z")
        self.refused(Ended, (), self.hall.bring, "b", shared=True, early=True, apart=True)
        self.refused(Ended, (), self.hall.end)
        for call in (self.hall.drop, lambda hold: self.hall.look(hold, "run"), lambda hold: self.hall.call(hold, "run"),
                     lambda hold: self.hall.call(hold, "none"), lambda hold: self.hall.show(hold, "n")):
            self.refused(Closed, (), call, a)
        self.refused(Closed, (), self.hall.hold, 0)
        self.assertIsNone(self.hall.why(0))
        self.assertEqual(self.hall.turned_by(SHELF[0]), [])

    def test_the_lasts_of_the_end(self):
        # Nothing is in the list of all, but walks stand: bring, share and drop tell None, ask and call are done.
        texts = ("lib a | needs b | use y - may | use z - may"
                 " | last ; bring c ; share b ; drop a ; ask b y ; call 0 ; call 1 ; tell 9",
                 "lib b | deed y - c ; tell 1", "lib c | deed z - c ; tell 2")
        hall = Hall(shelf_of(*texts), "a")
        hall.bring("a")
        hall.bring("c", shared=True)
        hall.end()
        self.assertEqual(hall.told(), [(0, None)] * 3 + [(1, 1), (1, 1), (0, None), (0, 9)])

    def test_told_goes_on_being_told(self):
        self.hall.call(self.hall.bring("a"), "run")
        self.hall.end()
        self.assertEqual(self.hall.told(), [(0, 6)])


if __name__ == "__main__":
    unittest.main()
