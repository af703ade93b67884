"""What is kept, what goes and in which order; a hall's net, why, gone (points 22 and 24)."""

import unittest

from latehall.errors import Closed, Ended, NoLibrary, NoWord
from latehall.halls import Hall
from latehall.nets import is_cut, is_way, reached
from samples import needing, shelf_of


def lasts(**needs):
    """A shelf whose lasts each tell the place of their name in the alphabet."""
    return tuple([(*library[:5], (("tell", ord(library[0]) - 96),), ()) for library in needing(**needs)])


def names(told):
    return "".join([chr(what + 96) for _, what in told])


def standing(hall):
    return "".join([name for _, _, name in hall.stands()])


class Kept(unittest.TestCase):
    def test_by_the_main(self):
        hall = Hall(lasts(a="b", b="c", c="a", d=""), "a")
        for name in "abc":
            hall.drop(hall.bring(name))
        self.assertEqual((standing(hall), hall.told()), ("abc", []))
        self.assertEqual(hall.gone(), ([], (3, [0], [(0, 1), (1, 2), (2, 0)])))

    def test_by_names_ahead(self):
        hall = Hall(lasts(a="", b="c", c=""), "a", ahead=("b",))
        hall.drop(hall.bring("c"))
        self.assertEqual(standing(hall), "abc")

    def test_by_what_is_held_and_its_needs(self):
        hall = Hall(lasts(a="", b="c", c="d", d="", e="d"), "a")
        b, e = hall.bring("b"), hall.bring("e")
        self.assertEqual(standing(hall), "abcde")
        hall.drop(b)
        self.assertEqual((standing(hall), names(hall.told())), ("ade", "bc"))
        hall.drop(e)
        self.assertEqual((standing(hall), names(hall.told())), ("a", "bced"))

    def test_by_the_mark_stays(self):
        hall = Hall(shelf_of("lib a", "lib b | needs c", "lib c stays | needs d", "lib d", "lib e | needs d"), "a")
        hall.drop(hall.bring("b"))
        self.assertEqual(standing(hall), "acd")
        hall.drop(hall.bring("e"))
        self.assertEqual(standing(hall), "acd")
        hall.bring("b", apart=True)
        hall.drop(hall.hold(5))
        self.assertEqual(hall.stands(), [(0, 0, "a"), (2, 0, "c"), (3, 0, "d"), (6, 1, "c"), (7, 1, "d")])

    def test_by_a_bound_use(self):
        shelf = shelf_of("lib a | use y - may | deed run - c ; call 0", "lib b | needs c | deed y - c", "lib c")
        hall = Hall(shelf, "a")
        a, b = hall.bring("a"), hall.bring("b", shared=True)
        hall.call(a, "run")
        hall.drop(b)
        self.assertEqual((standing(hall), hall.means(0)), ("abc", [(1, 0)]))
        self.assertEqual(hall.net(), (3, [0], [(0, 1), (1, 2)]))
        self.assertEqual(hall.why(2), ("main", [0, 1, 2]))
        hall.drop(a)
        self.assertEqual(standing(hall), "abc")

    def test_a_bound_use_of_a_cell(self):
        shelf = shelf_of("lib a", "lib b | use x - cell", "lib c | cell x - c 1")
        hall = Hall(shelf, "a")
        c = hall.bring("c", shared=True)
        b = hall.bring("b")
        hall.drop(c)
        self.assertEqual(standing(hall), "acb")
        self.assertEqual(hall.net()[2], [(2, 1)])
        hall.drop(b)
        self.assertEqual(standing(hall), "a")

    def test_a_use_that_is_not_bound_keeps_nothing(self):
        shelf = shelf_of("lib a | use y - must", "lib b | deed y - c")
        hall = Hall(shelf, "a")
        hall.drop(hall.bring("b", shared=True))
        self.assertEqual(standing(hall), "a")

    def test_rings_do_not_keep_themselves(self):
        shelf = shelf_of("lib a", "lib b | needs c | use x - cell | cell x - c 1", "lib c | needs b")
        hall = Hall(shelf, "a")
        b = hall.bring("b")
        self.assertEqual(hall.net(), (3, [0, 1], [(1, 1), (1, 2), (2, 1)]))
        hall.drop(b)
        self.assertEqual(standing(hall), "a")

    def test_needs_are_in_the_space(self):
        hall = Hall(needing(a="b", b="", c="b"), "a")
        hall.bring("c", apart=True)
        self.assertEqual(hall.net(), (4, [0, 2], [(0, 1), (2, 3)]))
        hall.drop(hall.hold(2))
        self.assertEqual(hall.stands(), [(0, 0, "a"), (1, 0, "b")])

    def test_what_stands_without_being_held_brought_again_is_the_same(self):
        shelf = shelf_of("lib a", "lib b | needs c", "lib c | use x - cell | cell x - c 1 | deed inc - c ; add 0 1"
                                                     " | first ; tell 3 | last ; tell 33")
        hall = Hall(shelf, "a")
        b, c = hall.bring("b"), hall.bring("c")
        hall.call(c, "inc")
        hall.drop(c)
        self.assertEqual(hall.held(), [1])
        with self.assertRaises(Closed):
            hall.show(c, "x")
        again = hall.bring("c")
        self.assertTrue(again == c)
        self.assertEqual((hall.show(again, "x"), hall.told()), (2, [(2, 3)]))
        hall.drop(b)
        self.assertEqual(standing(hall), "ac")
        hall.drop(again)
        new = hall.bring("c")
        self.assertEqual((new.number, hall.show(new, "x"), hall.told()), (3, 1, [(2, 3), (2, 33), (3, 3)]))

    def test_behind_a_call_and_behind_a_bring(self):
        shelf = shelf_of("lib a | deed run - c ; drop b", "lib b | last ; tell 2", "lib c | first ; drop b")
        hall = Hall(shelf, "a")
        a = hall.bring("a")
        hall.bring("b")
        hall.call(a, "run")
        self.assertEqual((standing(hall), hall.told()), ("a", [(1, 2)]))
        hall.bring("b")
        hall.bring("c")
        self.assertEqual((standing(hall), hall.told()), ("ac", [(1, 2), (2, 2)]))


class Going(unittest.TestCase):
    def test_those_begun_last_first(self):
        hall = Hall(lasts(a="", b="d c", c="e", d="", e=""), "a")
        b = hall.bring("b")
        self.assertEqual(hall.beginning(), [0, 2, 4, 3, 1])
        hall.drop(b)
        self.assertEqual(names(hall.told()), "bced")
        self.assertEqual(hall.gone(), ([1, 3, 4, 2], (5, [0], [(1, 2), (1, 3), (3, 4)])))

    def test_by_the_beginning_not_by_the_numbers(self):
        # The first of b brings c, which needs the d that came with b: begun are b, d, c.
        shelf = shelf_of("lib a", "lib b | needs d | first ; tell 1 | last ; tell 2 ; drop c",
                         "lib c | needs d | last ; tell 3", "lib d | needs b | first ; bring c ; drop c | last ; tell 4")
        hall = Hall(shelf, "a")
        b = hall.bring("b")
        self.assertEqual((hall.beginning(), hall.stands()), ([0, 1, 2], [(0, 0, "a"), (1, 0, "b"), (2, 0, "d")]))
        self.assertEqual(hall.told(), [(1, 1), (3, 3)])
        hall.drop(b)
        self.assertEqual(hall.told()[2:], [(2, 4), (1, 2), (1, None)])

    def test_they_stand_yet_while_lasts_are_done(self):
        # c goes ahead of b, and its cell is there for b's last; so is b's for c's.
        shelf = shelf_of("lib a",
                         "lib b | needs c | use x - cell | cell w - c 5 | first ; bring c | last ; show 0 ; add 0 1",
                         "lib c | needs b | use w - cell | cell x - c 1 | last ; ask b w ; ask c x ; show 0 ; drop b")
        hall = Hall(shelf, "a")
        hall.drop(hall.bring("b"))
        self.assertEqual(hall.held(), [2])
        hall.drop(hall.hold(2))
        # Begun were b, then c: the last of c is first.
        self.assertEqual(hall.told(), [(2, 5), (2, 1), (2, 5), (2, None), (1, 1)])
        self.assertEqual(standing(hall), "a")

    def test_bring_share_and_drop_rows_tell_none(self):
        shelf = shelf_of("lib a | deed y - c ; bring c ; tell 7 ; drop a", "lib c",
                         "lib b | use y - may | last ; bring c ; share c ; drop a ; bring q ; drop q ; tell 1 ; call 0")
        hall = Hall(shelf, "a")
        hall.bring("a")
        hall.drop(hall.bring("b"))
        self.assertEqual(hall.told(), [(1, None)] * 5 + [(1, 1), (0, None), (0, 7), (0, None)])
        self.assertEqual((hall.held(), standing(hall)), ([0], "a"))

    def test_behind_the_lasts_such_rows_are_done_again(self):
        shelf = shelf_of("lib a | deed y - c ; bring b ; drop b ; bring b", "lib b | last ; bring b")
        hall = Hall(shelf, "a")
        a = hall.bring("a")
        hall.drop(hall.bring("b"))
        hall.call(a, "y")
        self.assertEqual((hall.told(), standing(hall), hall.held()), ([(1, None)], "ab", [0, 2]))

    def test_lasts_of_those_that_go_mean_what_stands(self):
        # b's use is bound in its last: its own walk stands, though it goes.
        shelf = shelf_of("lib a", "lib b | needs c | use y - may | last ; call 0 ; tell 2", "lib c | deed y - c ; tell 3")
        hall = Hall(shelf, "a")
        hall.drop(hall.bring("b", shared=True))
        self.assertEqual(hall.told(), [(2, 3), (1, 2)])

    def test_a_last_may_call_what_is_kept(self):
        shelf = shelf_of("lib a | use y - may | use x - cell | deed go - c ; call 0 ; add 1 1 | cell x - c 0",
                         "lib b | needs c | use go - may | last ; call 0", "lib c | deed y - c ; tell 3")
        hall = Hall(shelf, "a")
        b = hall.bring("b", shared=True)
        hall.drop(b)
        # What goes is in no list of all, so the y of c isn't meant by a.
        self.assertEqual((hall.told(), hall.means(0), hall.cells_of(0)), ([(0, None)], [None, (0, 1)], {1: 1}))
        self.assertEqual(standing(hall), "a")

    def test_each_last_is_done_once(self):
        hall = Hall(lasts(a="b", b="a", c="b", d="c"), "a")
        hall.drop(hall.bring("d"))
        hall.end()
        self.assertEqual(names(hall.told()), "dcba")

    def test_in_the_reverse_order_of_the_firsts(self):
        shelf = tuple([(*library[:4], library[5], library[5], ()) for library
                       in lasts(a="c", b="d e", c="a", d="e f", e="b", f="", g="b c")])
        hall = Hall(shelf, "a")
        hall.bring("g")
        hall.bring("b", apart=True)
        hall.end()
        told = hall.told()
        self.assertEqual(told[:len(told) // 2], told[:len(told) // 2 - 1:-1])


class Nets(unittest.TestCase):
    SHELF = shelf_of(
        "lib a | needs b | use x - cell | deed run - c ; bring d ; tell 1",
        "lib b | cell x - c 1 | deed go - c ; tell 2",
        "lib c stays | needs b d | use go - may | deed run - c ; call 0",
        "lib d | needs c | last ; tell 4",
        "lib e | needs d | use x - cell",
    )

    def kept(self, hall):
        """What holds of a hall's net and ways behind any call."""
        net = hall.net()
        numbers = [number for number, _, _ in hall.stands()]
        self.assertEqual(reached(net), numbers)
        for number in range(-1, net[0] + 2):
            told = hall.why(number)
            if number not in numbers:
                self.assertIsNone(told)
                continue
            word, way = told
            self.assertIs(is_way(net, number, way), True)
            marks = [library[6] for one, _, library in hall.state()[5] if one == way[0]][0]
            words = [("main", way[0] == 0), ("held", way[0] in hall.held()), ("stays", "stays" in marks)]
            self.assertEqual(word, [one for one, holds in words if holds][0])
        went, ahead = hall.gone()
        self.assertIs(is_cut(ahead, sorted(went)), True)
        return net

    def test_behind_the_making(self):
        hall = Hall(self.SHELF, "a")
        self.assertEqual(self.kept(hall), (2, [0], [(0, 1)]))
        self.assertEqual(hall.gone(), ([], (2, [0], [(0, 1)])))
        self.assertEqual((hall.why(0), hall.why(1), hall.why(2)), (("main", [0]), ("main", [0, 1]), None))

    def test_behind_a_making_by_which_something_goes(self):
        shelf = shelf_of("lib a | first ; bring b ; drop b", "lib b | needs c | last ; tell 2", "lib c | last ; tell 3")
        hall = Hall(shelf, "a")
        self.assertEqual(hall.gone(), ([1, 2], (3, [0], [(1, 2)])))
        self.assertEqual(self.kept(hall), (3, [0], []))

    def test_behind_brings_drops_calls_and_the_end(self):
        hall = Hall(self.SHELF, "a")
        e = hall.bring("e")
        # e is 2, d 3, c 4; e means the x of b.
        self.assertEqual(self.kept(hall), (5, [0, 2, 4], [(0, 1), (2, 1), (2, 3), (3, 4), (4, 1), (4, 3)]))
        self.assertEqual(hall.gone(), ([], hall.net()))
        self.assertEqual((hall.why(2), hall.why(4)), (("held", [2]), ("stays", [4])))
        self.assertEqual(hall.why(3)[0], {2: "held", 4: "stays"}[hall.why(3)[1][0]])
        hall.drop(e)
        self.assertEqual(hall.gone(), ([2], (5, [0, 4], [(0, 1), (2, 1), (2, 3), (3, 4), (4, 1), (4, 3)])))
        self.assertEqual(self.kept(hall), (5, [0, 4], [(0, 1), (3, 4), (4, 1), (4, 3)]))
        self.assertEqual(hall.why(3), ("stays", [4, 3]))
        c = hall.bring("c")
        self.assertEqual(hall.why(4), ("held", [4]))
        hall.call(c, "run")
        self.assertEqual(self.kept(hall), (5, [0, 4], [(0, 1), (3, 4), (4, 1), (4, 3)]))
        a = hall.bring("a")
        self.assertEqual(hall.why(0), ("main", [0]))
        hall.call(a, "run")
        self.assertEqual(self.kept(hall)[1], [0, 3, 4])
        hall.end()
        self.assertEqual(self.kept(hall), (5, [], []))
        self.assertEqual(hall.gone(), ([4, 3, 0, 1], (5, [], [(0, 1), (3, 4), (4, 1), (4, 3)])))

    def test_gone_is_of_the_last_call_that_was_not_refused(self):
        hall = Hall(self.SHELF, "a")
        a, e = hall.bring("a"), hall.bring("e")
        hall.drop(e)
        ahead = hall.gone()
        self.assertEqual(ahead[0], [2])
        for kind, call in ((Closed, lambda: hall.drop(e)), (NoLibrary, lambda: hall.bring("q")),
                           (NoWord, lambda: hall.call(a, "q")), (Closed, lambda: hall.call(e, "run")),
                           (Closed, lambda: hall.hold(9))):
            with self.assertRaises(kind):
                call()
            self.assertEqual(hall.gone(), ahead)
        hall.look(a, "run")
        hall.show(a, "x")
        hall.shelve(self.SHELF[4])
        hall.hold(0)
        self.assertEqual(hall.gone(), ahead)
        hall.call(a, "run")
        self.assertEqual(hall.gone(), ([], hall.net()))
        hall.end()
        ahead = hall.gone()
        for call in (hall.end, lambda: hall.bring("b")):
            with self.assertRaises(Ended):
                call()
        self.assertEqual(hall.gone(), ahead)

    def test_the_net_as_the_going_began(self):
        # In b's last its use is bound, and leads in the net no more than c does.
        shelf = shelf_of("lib a | deed go - c", "lib b | use go - may | last ; call 0")
        hall = Hall(shelf, "a")
        hall.drop(hall.bring("b"))
        self.assertEqual(hall.gone(), ([1], (2, [0], [])))

    def test_each_pair_once_rising(self):
        shelf = shelf_of("lib a | needs c b | use x - cell | use x - cell | use y - cell | cell y - c 1", "lib b",
                         "lib c | needs a | cell x - c 1")
        hall = Hall(shelf, "a")
        self.assertEqual(hall.net(), (3, [0], [(0, 0), (0, 1), (0, 2), (1, 0)]))

    def test_why_a_shortest_way(self):
        hall = Hall(needing(a="b", b="c", c="d", d="", e="d", f="c"), "a")
        self.assertEqual(hall.why(3), ("main", [0, 1, 2, 3]))
        f = hall.bring("f")
        self.assertEqual(hall.why(3), ("held", [4, 2, 3]))
        e = hall.bring("e")
        self.assertEqual(hall.why(3), ("held", [5, 3]))
        d = hall.bring("d")
        self.assertEqual(hall.why(3), ("held", [3]))
        for hold in (d, e, f):
            hall.drop(hold)
        self.assertEqual(hall.why(3), ("main", [0, 1, 2, 3]))

    def test_what_is_told_is_the_askers(self):
        hall = Hall(self.SHELF, "a")
        hall.bring("e")
        ahead = (hall.net(), hall.gone(), hall.why(3))
        hall.net()[1].append(9)
        hall.net()[2].clear()
        hall.gone()[0].append(9)
        hall.gone()[1][1].append(9)
        hall.gone()[1][2].clear()
        hall.why(3)[1].append(9)
        self.assertEqual((hall.net(), hall.gone(), hall.why(3)), ahead)


if __name__ == "__main__":
    unittest.main()
