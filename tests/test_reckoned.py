"""Tables reckoned ahead, what is wrong with one, conflicts and how they are mended (points 2, 32 and 33)."""

import copy
import random
import unittest

from latehall.errors import NoLibrary, Unmet
from latehall.halls import Hall
from latehall.reckoned import conflicts, mended, reckoned, wrong_row
from samples import needing, shelf_of, with_part
from shelves_by_chance import NAMES, making_by_chance

SHELF = shelf_of(
    "lib a | needs b | use x - cell | use y - may | use q - must",
    "lib b | use y - may | cell x - c 5",
    "lib c | needs d | use y v must | use x - cell | deed y - c",
    "lib d | use y - may | cell x - cf 7 | deed y v f",
    "lib lost | needs nowhere other",
    "lib e own | needs d b | use y v may | use x - cell | deed y v - | cell x - cf 3",
)
MAIN = [("a", 0, ("b", 0)), ("a", 1, None), ("a", 2, None), ("b", 0, None)]


class Case(unittest.TestCase):
    def told(self, rows, main="a", shelf=SHELF, **more):
        told = reckoned(shelf, main, **more)
        self.assertEqual(told, rows)
        self.assertIsNone(wrong_row(shelf, main, rows, **more))
        # The list is the asker's own.
        told.append("more")
        told[0] = None
        self.assertEqual(reckoned(shelf, main, **more), rows)

    def refused(self, name, main, **more):
        for call in (lambda: reckoned(SHELF, main, **more), lambda: wrong_row(SHELF, main, [], **more)):
            with self.assertRaises(NoLibrary) as refusal:
                call()
            self.assertEqual(refusal.exception.name, name)


class Tables(Case):
    def test_main(self):
        self.told(MAIN)
        self.told([("d", 0, None)], main="d")
        self.assertEqual(reckoned(needing(a="b", b="a"), "a"), [])

    def test_loads(self):
        # By the scope as each comes: c's own walk for c and d, then it is shared or not.
        c = [("c", 0, ("c", 0)), ("c", 1, ("b", 0)), ("d", 0, ("c", 0))]
        self.told([*MAIN, *c[:2], ("d", 0, None)], loads=(("c", False),))
        self.told([*MAIN, *c], loads=(("c", True),))

    def test_what_is_shared_is_meant_by_what_comes_behind(self):
        shelf = shelf_of("lib a | use y - may", "lib b | deed y - c", "lib c | use y - may", "lib d | use y - may | deed y - c")
        self.told([("a", 0, None), ("c", 0, ("b", 0)), ("d", 0, ("b", 0))], shelf=shelf,
                  loads=(("b", True), ("c", False), ("d", True)))
        self.told([("a", 0, None), ("c", 0, None), ("d", 0, ("d", 0))], shelf=shelf,
                  loads=(("b", False), ("c", False), ("d", True)))
        # What came stays as it was meant then.
        self.told([("a", 0, None), ("c", 0, None)], shelf=shelf, loads=(("c", False), ("b", True)))

    def test_one_library_twice(self):
        shelf = shelf_of("lib a | use y - may", "lib b | use y - may | deed y - c", "lib c | use y - may")
        self.told([("a", 0, None), ("b", 0, ("b", 0)), ("c", 0, ("b", 0))], shelf=shelf,
                  loads=(("b", False), ("b", True), ("b", False), ("c", False), ("c", False)))
        self.told([("a", 0, None), ("b", 0, ("b", 0)), ("c", 0, None)], shelf=shelf,
                  loads=(("b", False), ("b", False), ("c", True), ("b", True), ("a", True)))

    def test_the_order_of_what_is_shared(self):
        shelf = shelf_of("lib a", "lib b | deed y - c", "lib c | needs b | deed y - c", "lib d | use y - may")
        self.told([("d", 0, ("b", 0))], shelf=shelf, loads=(("b", True), ("c", True), ("d", False)))
        self.told([("d", 0, ("c", 0))], shelf=shelf, loads=(("c", True), ("b", True), ("d", False)))
        # By when it came to be held, not by when it came to be shared.
        self.told([("d", 0, ("b", 0))], shelf=shelf, loads=(("b", False), ("c", True), ("b", True), ("d", False)))

    def test_faint(self):
        shelf = shelf_of("lib a | needs b c | use y - may | use x - cell", "lib b | deed y - cf | cell x - cf 1",
                         "lib c | deed y - c")
        self.told([("a", 0, ("b", 0)), ("a", 1, ("b", 1))], shelf=shelf)
        self.told([("a", 0, ("c", 0)), ("a", 1, ("b", 1))], shelf=shelf, faint=True)

    def test_own(self):
        self.told([*MAIN, ("e", 0, ("e", 0)), ("e", 1, ("e", 1)), ("d", 0, None)], loads=(("e", False),))
        self.told([*MAIN, ("e", 0, ("e", 0)), ("e", 1, ("b", 0)), ("d", 0, None)], loads=(("e", False),), faint=True)

    def test_no_rows_are_done_and_nothing_is_refused_but_lacking_libraries(self):
        shelf = shelf_of("lib a | use x - cell | use y - must | first ; share b ; tell 1", "lib b | cell x - c 1 | deed y - c")
        self.told([("a", 0, None), ("a", 1, None)], shelf=shelf)

    def test_refused(self):
        self.refused("q", "q")
        self.refused("nowhere", "lost", loads=(("q", True),))
        self.refused("q", "a", loads=(("c", True), ("q", False), ("lost", True)))
        self.refused("nowhere", "a", loads=(("lost", True), ("q", False)))

    def test_as_an_early_hall_binds_where_firsts_have_no_rows(self):
        alike = 0
        for seed in range(400):
            chance = random.Random(f"reckoned {seed}")
            shelf, main, more = making_by_chance(chance)
            shelf = tuple([with_part("first", (), library) for library in shelf])
            loads = tuple([(chance.choice(NAMES), chance.random() < 0.5) for _ in range(chance.randint(0, 9))])
            try:
                hall = Hall(shelf, main, early=True, faint=more["faint"])
                for name, shared in loads:
                    hall.bring(name, shared=shared)
            except (NoLibrary, Unmet):
                continue
            names = {number: name for number, _, name in hall.stands()}
            rows = [(name, use, means and (names[means[0]], means[1]))
                    for number, name in names.items() for use, means in enumerate(hall.means(number))]
            with self.subTest(seed=seed):
                self.assertEqual(reckoned(shelf, main, loads=loads, faint=more["faint"]), rows)
            alike += bool(rows)
        self.assertGreater(alike, 50)


class WrongRow(Case):
    LOADS = (("c", True),)
    ROWS = [*MAIN, ("c", 0, ("c", 0)), ("c", 1, ("b", 0)), ("d", 0, ("c", 0))]

    def wrong(self, number, rows, **more):
        before = copy.deepcopy(rows)
        self.assertEqual(wrong_row(SHELF, "a", rows, **{"loads": self.LOADS, **more}), number)
        self.assertEqual(rows, before)

    def test_none(self):
        self.wrong(None, self.ROWS)
        self.assertIsNone(wrong_row(needing(a=""), "a", []))

    def test_a_row_otherwise(self):
        for at, (name, use, means) in enumerate(self.ROWS):
            for row in (("z", use, means), (name, use + 9, means), (name, use, ("z", 0)), (name, use, ("b", 9))):
                self.wrong(at, self.ROWS[:at] + [row] + self.ROWS[at + 1:])
        self.wrong(0, [("a", 0, None), *self.ROWS[1:]])
        self.wrong(1, [self.ROWS[0], ("a", 1, ("b", 0)), *self.ROWS[2:5]])

    def test_left_out_doubled_exchanged(self):
        for at in range(len(self.ROWS)):
            self.wrong(at, self.ROWS[:at] + self.ROWS[at + 1:])
            self.wrong(at + 1, self.ROWS[:at + 1] + self.ROWS[at:])
        self.wrong(2, self.ROWS[:2] + self.ROWS[2:4][::-1] + self.ROWS[4:])
        self.wrong(0, self.ROWS[::-1])

    def test_the_lesser_length(self):
        for many in range(len(self.ROWS)):
            self.wrong(many, self.ROWS[:many])
        self.wrong(7, [*self.ROWS, ("d", 1, None)])
        self.wrong(7, self.ROWS + self.ROWS)
        self.wrong(0, [])
        self.assertEqual(wrong_row(needing(a=""), "a", [("a", 0, None)]), 0)

    def test_of_other_loads(self):
        self.wrong(6, self.ROWS, loads=(("c", False),))
        self.wrong(4, self.ROWS, loads=())
        self.wrong(4, self.ROWS, loads=(("d", False), ("c", True)))
        self.wrong(None, self.ROWS, faint=True)

    def test_truths_are_no_numbers(self):
        self.wrong(0, [("a", False, ("b", 0)), *self.ROWS[1:]])
        self.wrong(1, [self.ROWS[0], ("a", True, None), *self.ROWS[2:]])
        self.wrong(0, [("a", 0, ("b", False)), *self.ROWS[1:]])


class Conflicts(unittest.TestCase):
    def told(self, rows, other, told):
        before = copy.deepcopy((rows, other))
        given = conflicts(rows, other)
        self.assertEqual(given, told)
        self.assertEqual([type(given), *[type(part) for part in given]], [tuple, list, list])
        order = [row[:2] for row in other]
        more = copy.deepcopy((given, order))
        self.assertEqual(mended(rows, given, order), other)
        self.assertEqual((rows, other), before)
        self.assertEqual((given, order), more)
        again = mended(rows, given, order)
        again.append("more")
        given[0].append("more")
        given[1].append("more")
        self.assertEqual(conflicts(rows, other), told)
        self.assertEqual((rows, other), before)

    def test_none_where_both_are_the_same(self):
        self.told([], [], ([], []))
        self.told(MAIN, list(MAIN), ([], []))

    def test_rows_that_are_otherwise_more_or_fewer(self):
        other = [("a", 0, ("b", 1)), ("a", 1, None), ("c", 0, ("b", 0)), ("b", 0, ("c", 2))]
        self.told(MAIN, other, ([other[0], other[2], other[3]], [("a", 2)]))
        self.told(other, MAIN, ([MAIN[0], MAIN[2], MAIN[3]], [("c", 0)]))
        self.told(MAIN, [], ([], [row[:2] for row in MAIN]))
        self.told([], MAIN, (MAIN, []))

    def test_another_order_is_none(self):
        self.told(MAIN, MAIN[::-1], ([], []))
        self.told(MAIN, [MAIN[2], ("n", 0, None), MAIN[0]], ([("n", 0, None)], [("a", 1), ("b", 0)]))

    def test_of_one_shelf_and_of_two(self):
        one, other = [reckoned(SHELF, "a", loads=(("c", shared),)) for shared in (False, True)]
        self.told(one, other, ([("d", 0, ("c", 0))], []))
        self.told(one, reckoned(SHELF, "a"), ([], [("c", 0), ("c", 1), ("d", 0)]))
        turned = shelf_of("lib a | needs b | use x - cell | use y - may", "lib b | needs n | cell n - c 1 | cell x - c 1",
                          "lib n | use x - cell | deed y - c")
        self.told(reckoned(SHELF, "a"), reckoned(turned, "a"),
                  ([("a", 0, ("b", 1)), ("a", 1, ("n", 0)), ("n", 0, ("b", 1))], [("a", 2), ("b", 0)]))

    def test_by_chance(self):
        compared = 0
        for seed in range(200):
            chance = random.Random(f"conflicts {seed}")
            tables = []
            for _ in range(2):
                shelf, main, _ = making_by_chance(chance)
                loads = tuple([(library[0], chance.random() < 0.5) for library in chance.sample(shelf, 2)])
                try:
                    tables.append(reckoned(shelf, shelf[0][0], loads=loads))
                except NoLibrary:
                    pass
            if len(tables) == 2:
                one, other = tables
                order = [row[:2] for row in other]
                self.told(one, other, ([row for row in other if row not in one],
                                       [row[:2] for row in one if row[:2] not in order]))
                compared += one != other
        self.assertGreater(compared, 20)


if __name__ == "__main__":
    unittest.main()
