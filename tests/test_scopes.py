"""Walks, lists of all, scopes; what is bound, and when (points 13, 14, 15)."""

import unittest

from latehall.errors import NoLibrary, Unmet
from latehall.halls import Hall
from samples import needing, shelf_of

RING = needing(a="b", b="c", c="a d", d="", e="f", f="d e", g="")

# m calls y late; each of the others gives y, and tells its own number by it.
CALLS = shelf_of(
    "lib m | use y - may | deed run - c ; call 0",
    "lib p | deed y - c ; tell 1",
    "lib q | deed y - c ; tell 2",
    "lib r | needs p | use y - may | deed go - c ; call 0",
    "lib s own | needs p | use y - may | deed go - c ; call 0 | deed y - c ; tell 4",
    "lib t | needs q | use y - may | deed go - c ; call 0 | deed y - c ; tell 5",
)


class Walks(unittest.TestCase):
    def test_rings(self):
        hall = Hall(RING, "a")
        self.assertEqual(hall.stands(), [(0, 0, "a"), (1, 0, "b"), (2, 0, "c"), (3, 0, "d")])
        self.assertEqual([hall.walk(number) for number in range(4)], [[0, 1, 2, 3], [1, 2, 0, 3], [2, 0, 3, 1], [3]])

    def test_a_name_that_stands_is_that_of_its_instance(self):
        hall = Hall(RING, "a")
        self.assertEqual(hall.bring("e").number, 4)
        self.assertEqual(hall.walk(4), [4, 5, 3])
        self.assertEqual(hall.walk(5), [5, 3, 4])

    def test_its_own_needs_stay_as_it_came(self):
        hall = Hall(needing(a="b", b="c", c="", d=""), "a")
        hall.shelve(needing(b="d")[0])
        hall.bring("b")
        self.assertEqual(hall.walk(1), [1, 2])
        self.assertEqual(hall.stands(), [(0, 0, "a"), (1, 0, "b"), (2, 0, "c")])

    def test_apart_spaces(self):
        hall = Hall(RING, "a")
        hall.bring("e", apart=True)
        hall.bring("c", apart=True)
        self.assertEqual(hall.stands()[4:], [(4, 1, "e"), (5, 1, "f"), (6, 1, "d"),
                                             (7, 2, "c"), (8, 2, "a"), (9, 2, "d"), (10, 2, "b")])
        self.assertEqual(hall.walk(4), [4, 5, 6])
        self.assertEqual(hall.walk(8), [8, 10, 7, 9])

    def test_told_again_alike_behind_a_told_list_being_changed(self):
        hall = Hall(RING, "a")
        hall.bring("e", shared=True)
        for ask in (lambda: hall.walk(0), lambda: hall.scope(0), lambda: hall.all_of(0), hall.beginning, hall.held,
                    hall.stands, hall.told, lambda: hall.means(0), lambda: hall.net()[1], lambda: hall.net()[2],
                    lambda: hall.gone()[0], lambda: hall.gone()[1][2], lambda: hall.why(3)[1]):
            told, ahead = ask(), ask()
            told.append(9)
            told[0] = 8
            self.assertEqual(ask(), ahead)
        self.assertEqual(hall.walk(4), [4, 5, 3])


class ListsOfAll(unittest.TestCase):
    def test_the_mains_walk_then_shared_openings_in_their_order(self):
        hall = Hall(needing(a="b", b="", c="e", d="e b", e="", f=""), "a")
        self.assertEqual(hall.all_of(0), [0, 1])
        d = hall.bring("d", shared=True)
        hall.bring("f")
        c = hall.bring("c", shared=True)
        self.assertEqual([row[2] for row in hall.stands()], list("abdefc"))
        self.assertEqual(hall.all_of(0), [0, 1, 2, 3, 5])
        hall.drop(d)
        self.assertEqual(hall.all_of(0), [0, 1, 5, 3])
        hall.bring("d", shared=True)
        self.assertEqual(hall.stands()[-1], (6, 0, "d"))
        self.assertEqual(hall.all_of(0), [0, 1, 5, 3, 6])
        hall.drop(c)
        self.assertEqual(hall.all_of(0), [0, 1, 6, 3])

    def test_shared_from_a_later_bring_on(self):
        hall = Hall(needing(a="", b="", c=""), "a")
        b = hall.bring("b")
        hall.bring("c", shared=True)
        self.assertEqual(hall.all_of(0), [0, 2])
        # It was held ahead of c, so its place in the order is the first one.
        hall.bring("b", shared=True)
        self.assertEqual(hall.all_of(0), [0, 1, 2])
        hall.bring("b")
        hall.drop(b)
        hall.drop(b)
        self.assertEqual(hall.all_of(0), [0, 1, 2])
        hall.drop(b)
        self.assertEqual(hall.all_of(0), [0, 2])

    def test_one_whose_count_falls_to_0_is_no_longer_shared(self):
        hall = Hall(needing(a="b", b="c", c="", d=""), "a")
        c = hall.bring("d", shared=True)
        b = hall.bring("b", shared=True)
        hall.drop(b)
        self.assertEqual(hall.all_of(0), [0, 1, 2, 3])
        hall.bring("b")
        self.assertEqual(hall.state()[4], ((c.number, 1, True), (b.number, 1, False)))

    def test_the_mains_own_opening(self):
        hall = Hall(needing(a="b", b="", c=""), "a")
        hall.bring("c", shared=True)
        hall.bring("a", shared=True)
        self.assertEqual(hall.held(), [2, 0])
        self.assertEqual(hall.all_of(0), [0, 1, 2])

    def test_each_space_has_its_own(self):
        hall = Hall(RING, "a")
        hall.bring("g", shared=True)
        hall.bring("d", apart=True)
        hall.bring("f", apart=True, shared=True)
        self.assertEqual(hall.all_of(0), [0, 1, 2, 3, 4])
        self.assertEqual(hall.all_of(1), [])
        self.assertEqual(hall.all_of(2), [6, 7, 8])
        self.assertEqual(hall.all_of(3), [])


class Scopes(unittest.TestCase):
    def test_the_list_of_all_then_its_own_walk(self):
        hall = Hall(CALLS, "m", ahead=("q",))
        hall.bring("t")
        hall.bring("r")
        hall.bring("s")
        self.assertEqual([row[2] for row in hall.stands()], list("mqtrps"))
        self.assertEqual(hall.scope(0), [0, 1])
        self.assertEqual(hall.scope(2), [0, 1, 2])
        self.assertEqual(hall.scope(3), [0, 1, 3, 4])

    def test_the_mark_own(self):
        hall = Hall(CALLS, "m", ahead=("q",))
        s = hall.bring("s")
        self.assertEqual(hall.scope(s.number), [2, 0, 1, 3])
        hall.bring("s", shared=True)
        self.assertEqual(hall.all_of(0), [0, 1, 2, 3])
        self.assertEqual(hall.scope(s.number), [2, 0, 1, 3])
        self.assertEqual(hall.scope(0), [0, 1, 2, 3])

    def test_apart(self):
        hall = Hall(CALLS, "m", ahead=("q",))
        hall.bring("s", apart=True)
        hall.bring("t", apart=True)
        self.assertEqual(hall.scope(2), [2, 3])
        self.assertEqual(hall.scope(3), [3])
        self.assertEqual(hall.scope(4), [4, 5])
        self.assertEqual(hall.scope(5), [5])

    def test_as_is_held_when_it_is_asked(self):
        hall = Hall(CALLS, "m")
        p = hall.bring("p", shared=True)
        self.assertEqual(hall.scope(0), [0, 1])
        hall.drop(p)
        self.assertEqual(hall.scope(0), [0])


class Bound(unittest.TestCase):
    def test_cells_as_they_come_deeds_as_they_are_first_called(self):
        shelf = shelf_of("lib a | use x - cell | use y - may | cell x - c 1 | deed y - c | deed run - c ; call 1")
        hall = Hall(shelf, "a")
        self.assertEqual(hall.means(0), [(0, 0), None])
        hall.call(hall.bring("a"), "run")
        self.assertEqual(hall.means(0), [(0, 0), (0, 1)])

    def test_a_must_of_a_deed_is_late_as_well(self):
        shelf = shelf_of("lib a | use y - must | deed run - c ; call 0", "lib b | deed y - c ; tell 1")
        hall = Hall(shelf, "a")
        hall.call(hall.bring("a"), "run")
        self.assertEqual(hall.told(), [(0, None)])
        self.assertEqual(hall.means(0), [None])
        hall.bring("b", shared=True)
        hall.call(hall.hold(0), "run")
        self.assertEqual(hall.told(), [(0, None), (1, 1)])
        self.assertEqual(hall.means(0), [(1, 0)])

    def test_by_what_is_held_as_it_is_first_called(self):
        hall = Hall(CALLS, "m")
        m = hall.bring("m")
        q = hall.bring("q", shared=True)
        hall.bring("p", shared=True)
        hall.call(m, "run")
        self.assertEqual((hall.told(), hall.means(0)), ([(1, 2)], [(1, 0)]))
        hall.drop(q)
        # What is bound leads to q, so it stands, and it is meant yet.
        hall.call(m, "run")
        self.assertEqual((hall.told(), hall.means(0)), ([(1, 2), (1, 2)], [(1, 0)]))
        self.assertEqual(hall.scope(0), [0, 2])

    def test_what_is_bound_stays_though_something_comes_ahead_later(self):
        shelf = shelf_of("lib a | use x - cell | use y - may | deed run - c ; show 0 ; call 1",
                         "lib b | needs c | cell x - c 1 | deed y - c ; tell 10",
                         "lib c | cell x - c 2 | deed y - c ; tell 20")
        hall = Hall(shelf, "a", ahead=("c",))
        a = hall.bring("a")
        hall.call(a, "run")
        hall.bring("b", shared=True)
        hall.bring("a", shared=True)
        hall.call(a, "run")
        self.assertEqual(hall.told(), [(0, 2), (1, 20)] * 2)

    def test_a_use_without_meaning_is_looked_for_anew(self):
        hall = Hall(CALLS, "m")
        m = hall.bring("m")
        hall.call(m, "run")
        p = hall.bring("p", shared=True)
        hall.call(m, "run")
        hall.drop(p)
        hall.call(m, "run")
        self.assertEqual(hall.told(), [(0, None), (1, 1), (1, 1)])

    def test_early_by_the_hall(self):
        hall = Hall(CALLS, "m", early=True)
        r = hall.bring("r")
        self.assertEqual(hall.means(0), [None])
        self.assertEqual(hall.means(r.number), [(2, 0)])
        hall.bring("q", shared=True)
        self.assertEqual(hall.means(0), [None])
        hall.call(hall.bring("m"), "run")
        self.assertEqual(hall.means(0), [(3, 0)])

    def test_early_by_the_bring(self):
        hall = Hall(CALLS, "m")
        r = hall.bring("r", early=True)
        t = hall.bring("t")
        self.assertEqual(hall.means(r.number), [(2, 0)])
        self.assertEqual(hall.means(t.number), [None])
        # It binds those that come by it, not those that stand.
        hall.bring("t", early=True)
        hall.bring("m", early=True)
        self.assertEqual(hall.means(t.number), [None])
        self.assertEqual(hall.means(0), [None])

    def test_early_by_the_bring_is_not_early_for_what_a_first_brings(self):
        shelf = shelf_of("lib a", "lib b | use y - may | deed y - c | first ; bring c",
                         "lib c | use y - may | deed y - c")
        hall = Hall(shelf, "a")
        hall.bring("b", early=True)
        self.assertEqual(hall.stands()[1:], [(1, 0, "b"), (2, 0, "c")])
        self.assertEqual(hall.means(1), [(1, 0)])
        self.assertEqual(hall.means(2), [None])

    def test_early_by_the_mark(self):
        shelf = shelf_of("lib a early | needs b | use y - may", "lib b | use y - may | deed y - c",
                         "lib c early | use y - may | deed y - c")
        hall = Hall(shelf, "a")
        self.assertEqual((hall.means(0), hall.means(1)), ([(1, 0)], [None]))
        hall.bring("c", apart=True)
        self.assertEqual(hall.means(2), [(2, 0)])

    def test_early_without_meaning_is_not_bound(self):
        hall = Hall(CALLS, "m", early=True)
        self.assertEqual(hall.means(0), [None])
        p = hall.bring("p", shared=True)
        m = hall.bring("m")
        hall.call(m, "run")
        self.assertEqual(hall.means(0), [(p.number, 0)])

    def test_by_the_list_of_all_ahead_of_its_own_walk(self):
        hall = Hall(CALLS, "m", early=True, ahead=("q",))
        self.assertEqual(hall.means(hall.bring("r").number), [(1, 0)])
        self.assertEqual(hall.means(hall.bring("s").number), [(4, 1)])
        self.assertEqual(hall.means(hall.bring("t").number), [(1, 0)])

    def test_by_its_own_opening_if_it_is_shared(self):
        shelf = shelf_of("lib a", "lib b | needs c | deed y - c ; tell 1", "lib c | use y - may | deed y - c ; tell 2")
        hall = Hall(shelf, "a")
        hall.bring("b", early=True)
        self.assertEqual(hall.means(2), [(2, 0)])
        hall = Hall(shelf, "a")
        hall.bring("b", early=True, shared=True)
        self.assertEqual(hall.means(2), [(1, 0)])

    def test_faint(self):
        shelf = shelf_of("lib a | needs b | use x - cell | use y v may | deed run - c ; call 1",
                         "lib b | cell x - cf 1 | deed y v f ; tell 1 | deed y - c ; tell 2",
                         "lib c | cell x - c 5 | deed y - c ; tell 3")
        for faint, told in ((False, [(1, 1)]), (True, [(1, 2)])):
            hall = Hall(shelf, "a", faint=faint)
            hall.call(hall.bring("a"), "run")
            self.assertEqual(hall.told(), told)
            self.assertEqual(hall.means(0)[0], (1, 0))

    def test_apart_is_bound_by_its_own_space(self):
        hall = Hall(CALLS, "m", ahead=("q",))
        r = hall.bring("r", apart=True, early=True)
        self.assertEqual(hall.means(r.number), [(3, 0)])
        with self.assertRaises(Unmet) as caught:
            Hall(shelf_of("lib a | cell x - c 1", "lib b | use x - cell"), "a").bring("b", apart=True)
        self.assertEqual((caught.exception.name, caught.exception.word), ("b", "x"))

    def test_refusals_of_walks(self):
        with self.assertRaises(NoLibrary) as caught:
            Hall(needing(a="", b="c d"), "a").bring("b")
        self.assertEqual(caught.exception.name, "c")


if __name__ == "__main__":
    unittest.main()
