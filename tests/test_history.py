"""Histories and their answers, by a hall and by the plain reader (points 2 and 25)."""

import copy
import random
import unittest

from latehall.halls import Hall
from latehall.history import played
from latehall.plain import read
from players import played_by
from samples import SMALL, needing, shelf_of, with_part
from shelves_by_chance import history_by_chance, making_by_chance

SHELF = shelf_of(
    "lib a | needs b | use x - cell | use y - may | deed run - c ; call 1 ; add 0 1 ; show 0 | deed stay v - ; tell 4"
    " | first ; tell 1 | last ; tell -1",
    "lib b | cell x - c 5 | first ; tell 2 | last ; tell -2",
    "lib c | needs d | use z - cell | deed y - c ; tell 3 | first ; show 0 | last ; tell -3",
    "lib d | cell z - c 7 | last ; tell -4",
    "lib lost | needs nowhere",
    "lib strict | use none - cell",
)
OK = ("ok", None)
CLOSED = ("no", "Closed", ())


class Case(unittest.TestCase):
    def told(self, calls, answers, shelf=SHELF, main="a", **more):
        """Both answer so; what is handed in stays; all is told anew each time."""
        before = copy.deepcopy(calls)
        for player in (played, read):
            with self.subTest(player=player.__name__):
                given = player(shelf, main, calls, **more)
                self.assertEqual(given, answers)
                self.assertEqual(calls, before)
                for answer, rows in given:
                    rows.append("more")
                given.append("more")
                self.assertEqual(player(shelf, main, calls, **more), answers)

    def behind(self, calls, *answers):
        """What is answered to the calls, behind a making that is answered as ever."""
        self.told(calls, [(("ok", 0), [(1, 2), (0, 1)]), *answers])


class Answers(Case):
    def test_no_calls(self):
        self.told([], [(("ok", 0), [(1, 2), (0, 1)])])
        self.told([], [(("ok", 0), [])], shelf=(SMALL,))

    def test_bring(self):
        self.behind([("bring", "c", False, False, False), ("bring", "c", True, False, False),
                     ("bring", "b", False, False, True)],
                    (("ok", 2), [(2, 7)]), (("ok", 2), []), (("ok", 4), [(4, 2)]))

    def test_bring_refused(self):
        self.behind([("bring", "q", False, False, False), ("bring", "lost", True, True, True),
                     ("bring", "strict", False, False, False), ("bring", "b", False, False, False)],
                    (("no", "NoLibrary", ("q",)), []), (("no", "NoLibrary", ("nowhere",)), []),
                    (("no", "Unmet", ("strict", "none")), []), (("ok", 1), []))

    def test_drop(self):
        # What goes tells by its last, in the call by which it goes.
        self.behind([("bring", "c", False, False, False), ("bring", "c", False, False, False), ("drop", 2), ("drop", 2),
                     ("drop", 2)],
                    (("ok", 2), [(2, 7)]), (("ok", 2), []), (OK, []), (OK, [(2, -3), (3, -4)]), (CLOSED, []))

    def test_look(self):
        self.behind([("bring", "a", False, False, False), ("look", 0, "x", "", True), ("look", 0, "x", "", False),
                     ("look", 0, "run", "", False), ("look", 0, "stay", "v", False), ("look", 0, "stay", "", False),
                     ("look", 0, "y", "", False)],
                    (("ok", 0), []), (("ok", (1, 0)), []), (OK, []), (("ok", (0, 0)), []), (("ok", (0, 1)), []),
                    (OK, []), (OK, []))

    def test_call(self):
        self.behind([("bring", "a", False, False, False), ("call", 0, "run", ""), ("call", 0, "stay", "v"),
                     ("call", 0, "stay", ""), ("call", 0, "x", ""), ("bring", "c", True, False, False),
                     ("call", 0, "run", "")],
                    (("ok", 0), []), (OK, [(0, None), (0, 6)]), (OK, [(0, 4)]), (("no", "NoWord", ("stay",)), []),
                    (("no", "NoWord", ("x",)), []), (("ok", 2), [(2, 7)]), (OK, [(2, 3), (0, 7)]))

    def test_show(self):
        self.behind([("bring", "a", False, False, False), ("show", 0, "x", ""), ("call", 0, "run", ""),
                     ("show", 0, "x", "v"), ("show", 0, "run", "")],
                    (("ok", 0), []), (("ok", 5), []), (OK, [(0, None), (0, 6)]), (("ok", 6), []),
                    (("no", "NoWord", ("run",)), []))

    def test_shelve(self):
        new = with_part("name", "e", SMALL)
        other = shelf_of("lib c | first ; tell 9")[0]
        self.behind([("bring", "e", False, False, False), ("shelve", new), ("bring", "e", False, False, False),
                     ("shelve", other), ("bring", "c", False, False, False)],
                    (("no", "NoLibrary", ("e",)), []), (OK, []), (("ok", 2), []), (OK, []), (("ok", 3), [(3, 9)]))

    def test_shelve_a_thirteenth(self):
        names = "abcdefghijkl"
        shelf = tuple([with_part("name", name, SMALL) for name in names])
        thirteenth = with_part("name", "m", SMALL)
        again = with_part("first", (("tell", 1),), with_part("name", "l", SMALL))
        self.told([("shelve", thirteenth), ("bring", "m", False, False, False), ("shelve", again),
                   ("bring", "l", False, False, False)],
                  [(("ok", 0), []), (("no", "Full", ()), []), (("no", "NoLibrary", ("m",)), []), (OK, []),
                   (("ok", 1), [(1, 1)])], shelf=shelf)

    def test_end(self):
        bring = ("bring", "a", False, False, False)
        self.behind([bring, ("end",), ("end",), bring, ("bring", "q", False, False, True), ("drop", 0),
                     ("look", 0, "x", "", True), ("call", 0, "run", ""), ("show", 0, "x", ""),
                     ("shelve", with_part("name", "e", SMALL))],
                    (("ok", 0), []), (OK, [(0, -1), (1, -2)]), *[(("no", "Ended", ()), [])] * 3, *[(CLOSED, [])] * 4,
                    (OK, []))

    def test_numbers_of_nothing_that_is_held(self):
        # 1 stands and isn't held, 2 and 3 went, 4 never came.
        self.behind([("bring", "c", False, False, False), ("drop", 2),
                     *[call for number in (1, 2, 3, 4, -1, 10 ** 29)
                       for call in (("drop", number), ("look", number, "x", "", True), ("call", number, "run", ""),
                                    ("show", number, "x", ""))]],
                    (("ok", 2), [(2, 7)]), (OK, [(2, -3), (3, -4)]), *[(CLOSED, [])] * 24)


class Makings(Case):
    def test_refused(self):
        calls = [("bring", "b", False, False, False), ("end",)]
        self.told(calls, [(("no", "NoLibrary", ("q",)), [])], main="q")
        self.told(calls, [(("no", "NoLibrary", ("nowhere",)), [])], main="lost")
        self.told(calls, [(("no", "Unmet", ("strict", "none")), [])], main="strict")
        self.told(calls, [(("no", "NoLibrary", ("q",)), [])], ahead=("q", "lost"))

    def test_ahead(self):
        self.told([], [(("ok", 0), [(2, 2), (1, 7), (0, 1)])], ahead=("c",))
        self.told([], [(("ok", 0), [(1, 7), (0, 2), (2, 1)])], main="b", ahead=("c", "a"))

    def test_early_and_faint(self):
        shelf = shelf_of("lib a | needs b c | use y - may | deed run - c ; call 0",
                         "lib b | deed y - cf ; tell 1", "lib c | deed y - c ; tell 2",
                         "lib strict | use y w must | use z - must")
        calls = [("bring", "a", False, False, False), ("call", 0, "run", ""), ("bring", "strict", False, False, False)]
        made = [(("ok", 0), []), (("ok", 0), [])]
        self.told(calls, [*made, (OK, [(1, 1)]), (("ok", 3), [])], shelf=shelf)
        self.told(calls, [*made, (OK, [(2, 2)]), (("ok", 3), [])], shelf=shelf, faint=True)
        unmet = (("no", "Unmet", ("strict", "z")), [])
        self.told(calls, [*made, (OK, [(1, 1)]), unmet], shelf=shelf, early=True)
        self.told(calls[2:], [made[0], unmet], shelf=shelf, early=True, faint=True)
        early = [("bring", "strict", False, True, False)]
        self.told(early, [made[0], unmet], shelf=shelf)


class Rows(Case):
    def test_rows_of_one_call_alone(self):
        shelf = shelf_of("lib a | deed run - c ; tell 1 ; ask a run")
        calls = [("bring", "a", False, False, False), ("call", 0, "run", ""), ("call", 0, "run", "")]
        rows = [(0, 1)] * 20 + [(0, None)]
        self.told(calls, [(("ok", 0), []), (("ok", 0), []), (OK, rows), (OK, rows)], shelf=shelf)

    def test_cut(self):
        shelf = shelf_of("lib a | deed run - c ; " + " ; ".join(["ask a two"] * 8)
                         + " | deed two - c ; " + " ; ".join(["tell 2"] * 8))
        calls = [("bring", "a", False, False, False), ("call", 0, "run", ""), ("call", 0, "two", "")]
        # Of sixty rows seven are asks, the seventh's deed is cut behind five of its own.
        rows = [(0, 2)] * 53 + [(0, "cut")]
        self.told(calls, [(("ok", 0), []), (("ok", 0), []), (OK, rows), (OK, [(0, 2)] * 8)], shelf=shelf)


class Deeds(Case):
    def test_none_is_under_way_as_lasts_begin(self):
        # Twenty deeds in a last of what a call's own deed dropped, cut or not.
        chain = " ; ".join(["tell 1"] * 7)
        for rows, told in (("tell 5", [(0, 5)]), (" ; ".join(["ask a more"] * 7), [(0, 1)] * 52 + [(0, "cut")])):
            shelf = shelf_of(f"lib a | deed run - c ; drop b ; {rows} | deed more - c ; {chain} ; tell 1",
                             "lib b | deed go - c ; ask b go ; tell 2 | last ; ask b go")
            calls = [("bring", "a", False, False, False), ("bring", "b", False, False, False), ("call", 0, "run", "")]
            lasts = [(1, None)] + [(1, 2)] * 20
            self.told(calls, [(("ok", 0), []), (("ok", 0), []), (("ok", 1), []), (OK, [*told, *lasts])], shelf=shelf)


class ByChance(unittest.TestCase):
    def test_alike(self):
        kinds = {}
        for seed in range(250):
            chance = random.Random(f"history {seed}")
            shelf, main, more = making_by_chance(chance)
            calls = history_by_chance(chance)
            early = chance.random() < 0.3
            before = copy.deepcopy(calls)
            with self.subTest(seed=seed):
                told = played(shelf, main, calls, early=early, **more)
                self.assertEqual(told, read(shelf, main, calls, early=early, **more))
                self.assertEqual(told, played_by(Hall, shelf, main, calls, early=early, **more))
                self.assertEqual(calls, before)
                self.assertEqual(len(told), 1 if told[0][0][0] == "no" else len(calls) + 1)
            for call, (answer, _) in zip([("making",), *calls], told):
                kind = (call[0], answer[0] if answer[0] == "ok" else answer[1])
                kinds[kind] = kinds.get(kind, 0) + 1
        for kind in (("making", "ok"), ("making", "NoLibrary"), ("making", "Unmet"), ("bring", "ok"), ("bring", "Unmet"),
                     ("bring", "NoLibrary"), ("bring", "Ended"), ("drop", "ok"), ("drop", "Closed"), ("look", "ok"),
                     ("look", "Closed"), ("call", "ok"), ("call", "Closed"), ("call", "NoWord"), ("show", "ok"),
                     ("show", "Closed"), ("show", "NoWord"), ("shelve", "ok"), ("end", "ok"), ("end", "Ended")):
            self.assertGreater(kinds.get(kind, 0), 5, kind)

    def test_sixty_calls_and_more(self):
        shelf = needing(a="", b="a")
        calls = [("bring", "b", False, False, True)] * 80
        self.assertEqual(played(shelf, "a", calls), [(("ok", 0), [])] + [(("ok", 2 * k + 1), []) for k in range(80)])
        self.assertEqual(read(shelf, "a", calls), played(shelf, "a", calls))


if __name__ == "__main__":
    unittest.main()
