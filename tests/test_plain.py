"""The plain reader: the state behind a history, going on from a state, and that
it keeps nothing else (points 2, 3, 25 and 26)."""

import copy
import random
import unittest

from latehall.halls import Hall
from latehall.history import played
from latehall.plain import read, read_on, state_behind
from players import answer, done
from samples import SMALL, needing, shelf_of, with_part
from shelves_by_chance import history_by_chance, history_call_by_chance, making_by_chance
from test_states import only_tuples

SHELF = shelf_of(
    "lib a | needs b | use x - cell | use y - may | cell n - c 3 | deed run - c ; call 1 ; add 0 1",
    "lib b | cell x - c 5 | cell w - c -1",
    "lib c | needs d | deed y - c ; tell 1",
    "lib d | cell x - c 7",
    "lib strict | use none - cell",
)
A = ("bring", "a", False, False, False)
C = ("bring", "c", True, False, False)
RUN = ("call", 0, "run", "")


def behind(shelf, main, calls, **more):
    """The state of a hall that was told these calls; None where its making is refused."""
    made = answer(Hall, shelf, main, **more)
    if made[0] == "no":
        return None
    for call in calls:
        answer(done, made[1], call)
    return made[1].state()


class States(unittest.TestCase):
    def state(self, calls, openings, standing, bound, cells, coming, shelf=SHELF):
        before = copy.deepcopy(calls)
        told = state_behind(SHELF, "a", calls)
        libraries = {library[0]: library for library in SHELF}
        standing = tuple([(number, space, libraries[name]) for number, space, name in standing])
        self.assertEqual(told, (shelf, False, False, (), openings, standing, bound, cells, coming))
        self.assertEqual(told, behind(SHELF, "a", calls))
        self.assertIs(only_tuples(told), True)
        self.assertEqual(calls, before)

    def test_behind_every_kind_of_call(self):
        calls = []
        first = ((0, 0, 3), (1, 0, 5), (1, 1, -1))
        self.state(calls, (), ((1, 0, "b"), (0, 0, "a")), ((0, 0, 1, 0),), first, (2, 1))
        calls.append(C)
        stands = ((1, 0, "b"), (0, 0, "a"), (3, 0, "d"), (2, 0, "c"))
        cells = (*first, (3, 0, 7))
        self.state(calls, ((2, 1, True),), stands, ((0, 0, 1, 0),), cells, (4, 1))
        calls += [A, A]
        self.state(calls, ((2, 1, True), (0, 2, False)), stands, ((0, 0, 1, 0),), cells, (4, 1))
        calls += [RUN, ("drop", 2), ("drop", 0)]
        bound, cells = ((0, 0, 1, 0), (0, 1, 2, 0)), ((0, 0, 3), (1, 0, 6), (1, 1, -1), (3, 0, 7))
        self.state(calls, ((0, 1, False),), stands, bound, cells, (4, 1))
        for call in (("look", 0, "run", "", False), ("show", 0, "x", ""), ("drop", 2), ("call", 0, "q", ""),
                     ("bring", "q", False, False, True), ("bring", "strict", True, True, True)):
            calls.append(call)
            self.state(calls, ((0, 1, False),), stands, bound, cells, (4, 1))
        calls.append(("bring", "d", False, False, True))
        openings, stands, cells = ((0, 1, False), (4, 1, False)), (*stands, (4, 1, "d")), (*cells, (4, 0, 7))
        self.state(calls, openings, stands, bound, cells, (5, 2))
        extra = with_part("name", "e", SMALL)
        calls.append(("shelve", extra))
        self.state(calls, openings, stands, bound, cells, (5, 2), (*SHELF, extra))
        calls.append(("end",))
        self.state(calls, (), (), (), (), (5, 2), (*SHELF, extra))
        calls += [("end",), A, ("drop", 0)]
        self.state(calls, (), (), (), (), (5, 2), (*SHELF, extra))

    def test_openings_in_their_order(self):
        shelf = needing(a="", b="", c="")
        brings = {name: ("bring", name, False, False, False) for name in "abc"}
        calls = [brings["b"], brings["a"], brings["c"], ("bring", "b", True, False, False), ("drop", 0), brings["a"]]
        self.assertEqual(state_behind(shelf, "a", calls)[4], ((1, 2, True), (2, 1, False), (0, 1, False)))
        calls += [("drop", 1), ("drop", 1)]
        self.assertEqual(state_behind(shelf, "a", calls)[4], ((2, 1, False), (0, 1, False)))

    def test_truths_and_names_ahead(self):
        told = state_behind(SHELF, "b", [], ahead=("c", "a"), early=True, faint=True)
        self.assertEqual(told[1:4], (True, True, ("c", "a")))
        self.assertEqual([row[0] for row in told[5]], [3, 1, 0, 2])
        self.assertEqual(told, Hall(SHELF, "b", ahead=("c", "a"), early=True, faint=True).state())
        self.assertEqual([type(part) for part in told[1:3]], [bool, bool])

    def test_none_where_the_making_is_refused(self):
        for main, more in (("q", {}), ("strict", {}), ("a", {"ahead": ("q",)}), ("a", {"ahead": ("strict",)})):
            self.assertIsNone(state_behind(SHELF, main, [A], **more))

    def test_a_main_of_a_space_of_its_own_needs_no_names_ahead(self):
        calls = [("bring", "b", False, False, True)]
        told = state_behind(SHELF, "b", calls, ahead=("d",))
        self.assertEqual([row[:2] for row in told[5]], [(1, 0), (0, 0), (2, 1)])
        self.assertEqual(told, behind(SHELF, "b", calls, ahead=("d",)))

    def test_by_chance(self):
        none = 0
        for seed in range(150):
            chance = random.Random(f"state {seed}")
            shelf, main, more = making_by_chance(chance)
            calls = history_by_chance(chance)
            early = chance.random() < 0.3
            with self.subTest(seed=seed):
                told = state_behind(shelf, main, calls, early=early, **more)
                self.assertEqual(told, behind(shelf, main, calls, early=early, **more))
                none += told is None
        self.assertTrue(5 < none < 100)


class ReadOn(unittest.TestCase):
    def on(self, calls, *answers, ahead=()):
        """What is answered from the state behind some calls on, the same as in the whole."""
        state = state_behind(SHELF, "a", list(ahead))
        before = copy.deepcopy((state, calls))
        told = read_on(state, calls)
        self.assertEqual(told, list(answers))
        self.assertEqual((state, calls), before)
        self.assertEqual(read(SHELF, "a", [*ahead, *calls])[len(ahead) + 1:], told)
        self.assertEqual(played(SHELF, "a", [*ahead, *calls])[len(ahead) + 1:], told)

    def test_no_calls(self):
        self.on([])
        self.on([], ahead=[A, C])

    def test_bound_uses(self):
        # The deed that y meant is meant on, though c isn't held any longer and another stands.
        new = shelf_of("lib new | deed y - c ; tell 9")[0]
        ahead = [A, C, RUN, ("drop", 2), ("shelve", new)]
        self.on([("bring", "new", True, False, False), RUN], (("ok", 4), []), (("ok", None), [(2, 1)]), ahead=ahead)
        ahead = [A, ("shelve", new)]
        self.on([("bring", "new", True, False, False), RUN], (("ok", 2), []), (("ok", None), [(2, 9)]), ahead=ahead)

    def test_changed_cells(self):
        self.on([("show", 0, "x", ""), RUN, ("show", 0, "x", "")],
                (("ok", 7), []), (("ok", None), [(0, None)]), (("ok", 8), []), ahead=[A, RUN, RUN])

    def test_shared_openings(self):
        self.on([RUN], (("ok", None), [(2, 1)]), ahead=[A, C])
        self.on([RUN], (("ok", None), [(0, None)]), ahead=[A, ("bring", "c", False, False, False)])
        self.on([("drop", 2), RUN, ("drop", 2), RUN], (("ok", None), []), (("ok", None), [(2, 1)]), (("ok", None), []),
                (("ok", None), [(2, 1)]), ahead=[A, C, C])

    def test_other_spaces(self):
        ahead = [A, ("bring", "a", False, False, True), ("bring", "c", True, False, True)]
        self.on([("call", 2, "run", ""), RUN, ("bring", "d", False, False, True), ("look", 2, "x", "", True)],
                (("ok", None), [(2, None)]), (("ok", None), [(0, None)]), (("ok", 6), []), (("ok", (3, 0)), []),
                ahead=ahead)

    def test_behind_the_end(self):
        ahead = [A, C, ("end",)]
        self.on([("end",), A, ("drop", 0), ("shelve", SMALL)], (("no", "Ended", ()), []), (("no", "Ended", ()), []),
                (("no", "Closed", ()), []), (("ok", None), []), ahead=ahead)

    def test_numbers_come_on(self):
        self.on([C, ("bring", "d", False, False, True)], (("ok", 4), []), (("ok", 6), []), ahead=[C, ("drop", 2)])

    def test_by_chance(self):
        for seed in range(150):
            chance = random.Random(f"on {seed}")
            shelf, main, more = making_by_chance(chance)
            calls = history_by_chance(chance)
            whole = read(shelf, main, calls, **more)
            if whole[0][0][0] == "no":
                continue
            for at in {chance.randint(0, len(calls)) for _ in range(4)}:
                with self.subTest(seed=seed, at=at):
                    state = state_behind(shelf, main, calls[:at], **more)
                    before = copy.deepcopy(state)
                    self.assertEqual(read_on(state, calls[at:]), whole[at + 1:])
                    self.assertEqual(state, before)


class NothingElseIsKept(unittest.TestCase):
    def test_from_the_state_of_a_hall(self):
        # Two halls of one state go on alike, whatever came before in them.
        for seed in range(60):
            chance = random.Random(f"kept {seed}")
            shelf, main, more = making_by_chance(chance)
            made = answer(Hall, shelf, main, **more)
            if made[0] == "no":
                continue
            for _ in range(20):
                call = history_call_by_chance(chance, 8)
                state, many = made[1].state(), len(made[1].told())
                given = answer(done, made[1], call)
                with self.subTest(seed=seed, call=call):
                    self.assertEqual(read_on(state, [call]), [(given, made[1].told()[many:])])

    def test_a_state_that_no_hall_was_in(self):
        # All that the reader has is the state, so it goes by one that is made by hand, too.
        shelf = shelf_of("lib a | use y - may | deed run - c ; call 0", "lib b | deed y - c ; tell 1",
                         "lib c | deed y - c ; tell 2")
        standing = ((5, 3, shelf[2]), (0, 0, shelf[0]), (7, 0, shelf[2]), (6, 0, shelf[1]))
        openings = ((0, 1, False), (7, 1, True), (6, 1, True), (5, 2, True))
        state = (shelf, False, False, (), openings, standing, (), (), (90, 9))
        calls = [("call", 0, "run", ""), ("drop", 7), ("call", 0, "run", ""), ("bring", "b", False, False, True)]
        self.assertEqual(read_on(state, calls), [(("ok", None), [(7, 2)]), (("ok", None), []), (("ok", None), [(7, 2)]),
                                                 (("ok", 90), [])])
        other = (*state[:4], ((0, 1, False), (6, 1, True), (7, 1, True)), *state[5:])
        self.assertEqual(read_on(other, calls)[0], (("ok", None), [(6, 1)]))
        bound = (*state[:6], ((0, 0, 6, 0),), *state[7:])
        self.assertEqual(read_on(bound, calls)[0], (("ok", None), [(6, 1)]))

    def test_walks_and_scopes_are_made_anew_at_each_row(self):
        # Between two calls of y in one run what is held changes, and so does what z means.
        shelf = shelf_of(
            "lib a | use y - may | use z - may | deed run - c ; call 1 ; drop b ; drop c ; drop c ; call 1"
            " | first ; call 0 ; share b ; call 0 ; bring c ; call 1 ; share c",
            "lib b | deed y - c ; tell 1 | last ; tell -2", "lib c | deed z - c ; tell 2 | last ; tell -3")
        calls = [("bring", "a", False, False, False), ("call", 0, "run", ""), ("call", 0, "run", "")]
        # The uses are bound by now, so b and c stay; nothing is held that could be dropped anew.
        rows = [(0, None), (1, 1), (0, None)]
        run, again = [(2, 2), (2, 2)], [(2, 2), (0, None), (0, None), (0, None), (2, 2)]
        told = [(("ok", 0), rows), (("ok", 0), []), (("ok", None), run), (("ok", None), again)]
        self.assertEqual(read(shelf, "a", calls), told)
        self.assertEqual(played(shelf, "a", calls), told)

    def test_within_a_run_a_new_library_of_a_name_is_seen(self):
        # A shelved library comes by the next row that brings it; what stands is its instance on.
        shelf = shelf_of("lib a | deed run - c ; bring b ; ask b x ; drop b", "lib b | cell x - c 1")
        new = shelf_of("lib b | needs c | first ; tell 3", "lib c | cell x - c 2")
        run = ("call", 0, "run", "")
        calls = [("bring", "a", False, False, False), run, ("bring", "b", False, False, False), ("shelve", new[0]), run,
                 ("drop", 2), run, ("shelve", new[1]), run]
        ok = ("ok", None)
        told = [(("ok", 0), []), (("ok", 0), []), (ok, [(0, 1)]), (("ok", 2), []), (ok, []), (ok, [(0, 1)]), (ok, []),
                (ok, [(0, None)] * 3), (ok, []), (ok, [(3, 3), (0, 2)])]
        self.assertEqual(read(shelf, "a", calls), told)
        self.assertEqual(played(shelf, "a", calls), told)


if __name__ == "__main__":
    unittest.main()
