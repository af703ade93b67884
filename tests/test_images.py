"""Images: numbers of names, libraries as numbers, what is filled and what is wrong (points 2 and 28)."""

import copy
import random
import unittest

from latehall.images import begins, filled, image, name_number, name_of, wrong_place
from samples import LARGE, SMALL, THINGS, library_of, nested
from shelves_by_chance import library_by_chance

# Every word of a row in a deed, in first and in last; uses of both kinds, gives of both kinds.
ROWS = " ; tell -7 ; show 1 ; put 1 4 ; add 3 -5 ; call 0 ; bring b ; share cc ; drop d"
MORE = " ; ask ab yz ; skip 3 ; skip 1"
FULL = library_of(
    "lib a own | needs b | use go - may | use x - cell | use come v must | use y w cell"
    " | cell x - c 30 | deed go v -" + ROWS + " | cell y w f -2 | deed come - cf" + MORE + " | deed rest - c"
    " | first" + ROWS + " | last" + MORE)
# The numbers of names: b and d, cc, ab, yz.
B, D, CC, AB, YZ = 11, 13, 12 * 36 + 12, 10 * 36 + 11, 34 * 36 + 35
ROWS_LAID = [1, -7, 0, 2, 1, 0, 3, 1, 4, 4, 3, -5, 5, 0, 0, 6, B, 0, 7, CC, 0, 8, D, 0, 0, 0, 0]
MORE_LAID = [9, AB, YZ, 11, 3, 0, 11, 1, 0, 0, 0, 0]
FULL_LAID = [6, 0, 9, 0, 30, -2, 10, 0, 0, 10, 2, 0, *ROWS_LAID, *MORE_LAID, 0, 0, 0, *ROWS_LAID, *MORE_LAID]
FULL_PLACES = [
    (0, "own", 6), (1, "cell", 1), (2, "own", 9), (3, "cell", 3),
    (16, "own", 1), (19, "own", 1), (22, "own", 3), (25, "own", 0),
    (43, "own", 3), (46, "own", 1),
    (58, "own", 1), (61, "own", 1), (64, "own", 3), (67, "own", 0),
    (85, "own", 3), (88, "own", 1),
]


class Names(unittest.TestCase):
    def test_numbers_of_names(self):
        for name in ("a", "z", "b", "ab", "ba", "zz", "aaaaaaaa", "zzzzzzzz", "latehall", "none"):
            self.assertEqual(name_number(name), int(name, 36))
            self.assertEqual(name_of(int(name, 36)), name)
        self.assertEqual((name_number("a"), name_number("z"), name_number("aa")), (10, 35, 370))

    def test_names_of_small_numbers(self):
        self.assertEqual([name_of(number) for number in range(-3, 10)], [None] * 13)
        self.assertEqual([name_of(number) for number in range(10, 36)], list("abcdefghijklmnopqrstuvwxyz"))
        self.assertEqual([name_of(number) for number in range(36, 370)], [None] * 334)
        self.assertEqual([name_of(number) for number in (370, 395, 396, 405, 406)], ["aa", "az", None, None, "ba"])

    def test_figures_within(self):
        for text in ("1a", "a0", "a9", "0a", "a0b", "ab0ab", "abcdefg5", "9zzzzzzz"):
            self.assertEqual(name_of(int(text, 36)), "a" if text == "0a" else None)

    def test_below_0(self):
        for number in (-10, -35, -370, -int("zzzzzzzz", 36), -10 ** 40):
            self.assertIsNone(name_of(number))

    def test_many_figures(self):
        self.assertEqual(name_of(int("zzzzzzzz", 36)), "zzzzzzzz")
        for number in (int("zzzzzzzz", 36) + 1, int("aaaaaaaaa", 36), 10 ** 30 - 1, 10 ** 5000, -10 ** 5000):
            self.assertIsNone(name_of(number))


class Images(unittest.TestCase):
    def test_all_there_is(self):
        self.assertEqual(image(FULL), (tuple(FULL_LAID), FULL_PLACES))

    def test_kinds(self):
        numbers, places = image(FULL)
        self.assertIs(type(numbers), tuple)
        self.assertIs(type(places), list)
        self.assertEqual({type(number) for number in numbers}, {int})
        self.assertEqual({type(row) for row in places}, {tuple})

    def test_nothing_but_a_name(self):
        self.assertEqual(image(SMALL), ((0, 0, 0, 0, 0, 0), []))
        self.assertEqual(begins(SMALL), ({}, {}, 0, 3))
        self.assertEqual(filled(image(SMALL), 77, {}), [0] * 6)

    def test_uses_alone(self):
        self.assertEqual(image(library_of("lib a | use x - cell")), ((0,) + (0,) * 6, [(0, "cell", 0)]))
        self.assertEqual(image(library_of("lib a | use x - may")), ((1, 10, 0, 0) + (0,) * 6, [(0, "own", 1)]))

    def test_gives_alone(self):
        self.assertEqual(image(library_of("lib a | cell x - c -9")), ((-9,) + (0,) * 6, []))
        self.assertEqual(image(library_of("lib a | deed x - c")), ((0,) * 9, []))
        self.assertEqual(image(library_of("lib a | deed x - c ; tell 5")), ((1, 5) + (0,) * 10, []))

    def test_numbers_of_many_figures(self):
        big = 10 ** 30 - 1
        numbers, places = image(library_of(f"lib a | use x - cell | cell x - c {big} | first ; put 0 -{big} ; tell {big}"))
        self.assertEqual(numbers, (0, big, 3, 0, -big, 1, big, 0, 0, 0, 0, 0, 0, 0))
        self.assertEqual(places, [(0, "cell", 0), (3, "own", 0)])

    def test_places_rise_and_tell_places_of_the_image(self):
        for seed in range(100):
            library = library_by_chance(random.Random(f"image {seed}"), "a", most=8)
            numbers, places = image(library)
            self.assertEqual(places, sorted(set(places)))
            self.assertEqual([number for number in numbers if isinstance(number, bool)], [])
            for at, kind, k in places:
                self.assertTrue(kind == "own" and numbers[at] == k or kind == "cell" and library[3][k][2] and at == k)

    def test_told_again_alike(self):
        told = image(FULL)
        told[1].append("more")
        told[1][0] = None
        self.assertEqual(image(FULL), (tuple(FULL_LAID), FULL_PLACES))


class Begins(unittest.TestCase):
    def test_all_there_is(self):
        self.assertEqual(begins(FULL), ({0: 4, 2: 5}, {1: 12, 3: 39, 4: 51}, 54, 81))

    def test_where_they_begin(self):
        # A cell's number, a deed's rows, those of first and of last stand there.
        for seed in range(100):
            library = library_by_chance(random.Random(f"begins {seed}"), "a", most=8)
            numbers = image(library)[0]
            cells, deeds, first, last = begins(library)
            self.assertEqual(sorted([*cells, *deeds]), list(range(len(library[2]))))
            for give, at in cells.items():
                self.assertEqual(numbers[at], library[2][give][4])
            ends = [(at, library[2][give][4]) for give, at in deeds.items()] + [(first, library[4]), (last, library[5])]
            for at, rows in ends:
                self.assertEqual(numbers[at + 3 * len(rows):][:3], (0, 0, 0))
                words = ["tell", "show", "put", "add", "call", "bring", "share", "drop", "ask", None, "skip"]
                self.assertEqual([words[number - 1] for number in numbers[at:at + 3 * len(rows):3]], [row[0] for row in rows])

    def test_new_dicts(self):
        told = begins(FULL)
        told[0][9] = 9
        told[1].clear()
        self.assertEqual(begins(FULL), ({0: 4, 2: 5}, {1: 12, 3: 39, 4: 51}, 54, 81))
        self.assertEqual([type(part) for part in begins(FULL)], [dict, dict, int, int])


class Filled(unittest.TestCase):
    def told(self, laid, base, addresses, numbers):
        before = copy.deepcopy((laid, addresses))
        told = filled(laid, base, addresses)
        self.assertEqual(told, numbers)
        self.assertIs(type(told), list)
        self.assertEqual((laid, addresses), before)
        told.append("more")
        self.assertEqual(filled(laid, base, addresses), numbers)

    def test_at_bases(self):
        for base in (0, 1, 5, 100, 10 ** 29):
            numbers = list(FULL_LAID)
            for at, kind, k in FULL_PLACES:
                numbers[at] = base + k
            numbers[1], numbers[3] = 44, 10 ** 29
            self.told(image(FULL), base, {1: 44, 3: 10 ** 29}, numbers)

    def test_all_else_as_laid(self):
        # A number like a place stays where it is none.
        library = library_of("lib a | use x - cell | cell x - c 1 | first ; tell 1 ; put 0 1 ; add 0 0")
        self.told(image(library), 50, {0: 51}, [51, 1, 1, 1, 0, 3, 50, 1, 4, 50, 0, 0, 0, 0, 0, 0, 0])

    def test_what_fits_no_library(self):
        self.told(((4, 5, 6), [(0, "own", 2), (2, "cell", 7)]), 10, {7: 3}, [12, 5, 3])


class WrongPlace(unittest.TestCase):
    def test_none_of_what_is_filled(self):
        for base in (0, 7, 10 ** 29):
            self.assertIsNone(wrong_place(FULL, base, filled(image(FULL), base, {1: 3, 3: 4})))
        self.assertIsNone(wrong_place(SMALL, 5, [0] * 6))

    def test_slots_and_cells_may_bear_any_numbers(self):
        lies = filled(image(FULL), 9, {1: 0, 3: 0})
        for at in range(6):
            for number in (0, -1, 10 ** 40):
                lies[at] = number
                self.assertIsNone(wrong_place(FULL, 9, lies))

    def test_the_least_place(self):
        lies = filled(image(FULL), 9, {1: 0, 3: 0})
        for at in range(6, len(lies)):
            wrong = list(lies)
            wrong[at] += 1
            self.assertEqual(wrong_place(FULL, 9, wrong), at)
            wrong[-1] = 1
            wrong[0] = 12345
            self.assertEqual(wrong_place(FULL, 9, wrong), min(at, len(lies) - 1))

    def test_filled_at_another_base(self):
        # The first own place behind the slots is the first row's that shows a cell.
        lies = filled(image(FULL), 9, {1: 0, 3: 0})
        self.assertEqual(wrong_place(FULL, 10, lies), 16)
        self.assertEqual(wrong_place(FULL, 0, lies), 16)
        self.assertIsNone(wrong_place(SMALL, 0, filled(image(SMALL), 9, {})))

    def test_another_librarys_image(self):
        other = library_of("lib a | cell x - c 1")
        self.assertEqual(wrong_place(other, 0, list(image(SMALL)[0])), -1)
        self.assertIsNone(wrong_place(other, 0, [5] + [0] * 6))
        self.assertEqual(wrong_place(other, 0, [5, 0, 0, 7, 7, 0, 0]), 3)

    def test_no_list_of_whole_numbers_of_that_length(self):
        lies = filled(image(FULL), 9, {1: 0, 3: 0})
        for thing in THINGS + [nested(15), tuple(lies), dict(enumerate(lies)), str(lies), lies[:-1], [*lies, 0], lies * 2]:
            self.assertEqual(wrong_place(FULL, 9, thing), -1)
        for part in (True, False, None, "0", "", [0], (0,), {}):
            for at in (0, 4, 6, len(lies) - 1):
                self.assertEqual(wrong_place(FULL, 9, lies[:at] + [part] + lies[at + 1:]), -1)
        self.assertEqual(wrong_place(SMALL, 0, [False] * 6), -1)
        self.assertEqual(wrong_place(SMALL, 0, []), -1)

    def test_what_is_handed_in_stays(self):
        lies = filled(image(LARGE), 9, {0: 0})
        before = list(lies)
        self.assertIsNone(wrong_place(LARGE, 9, lies))
        self.assertEqual(lies, before)


if __name__ == "__main__":
    unittest.main()
