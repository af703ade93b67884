"""What is a library, what are rows, what is a shelf (points 2, 4 and 5)."""

import copy
import unittest

from latehall.libraries import is_library, is_shelf
from samples import GIVES, LARGE, LAST, ROWS, SMALL, THINGS, USES, nested, with_part

NO_NAMES = ["", "abcdefghi", "A", "aB", "a1", "a ", " a", "-", "a-b", "a\n", "\t", "~", "\u00e4",
            None, True, 1, ("a",), ["a"], {"a": 1}, ("a", "b")]
NAMES = ["a", "z", "abcdefgh", "zzzzzzzz", "lib", "needs", "none"]
NO_NUMBERS = [True, False, None, "1", "", (1,), [1], {1: 1}]


class Told(unittest.TestCase):
    def library(self, thing):
        self.assertIs(is_library(thing), True, thing)

    def no_library(self, thing):
        self.assertIs(is_library(thing), False, thing)

    def part(self, part, thing):
        self.library(with_part(part, thing))

    def no_part(self, part, thing):
        self.no_library(with_part(part, thing))


class Libraries(Told):
    def test_plain_ones(self):
        self.library(SMALL)
        self.library(LARGE)

    def test_things_are_none(self):
        for thing in THINGS + [nested(depth) for depth in range(21)]:
            self.no_library(thing)

    def test_a_thing_in_any_place_of_a_part(self):
        for thing in THINGS + [nested(20), "a" * 9000, [0] * 9000, (0,) * 9000]:
            for part in ("name", "needs", "gives", "uses", "first", "last", "marks"):
                self.no_part(part, thing)

    def test_the_number_of_parts(self):
        self.no_library(())
        self.no_library(LARGE[:6])
        self.no_library(LARGE + ((),))
        self.no_library(SMALL[:6])
        self.no_library(SMALL + ((),))

    def test_a_list_or_a_dict_for_the_tuple(self):
        self.no_library(list(LARGE))
        self.no_library({"name": "a"})
        self.no_library(dict(enumerate(SMALL)))
        for part, thing in (("needs", ["b"]), ("gives", list(GIVES)), ("uses", list(USES)),
                            ("first", list(ROWS)), ("last", list(LAST)), ("marks", ["own"])):
            self.no_part(part, thing)
            self.no_library(with_part(part, [], SMALL))

    def test_names(self):
        for name in NAMES:
            self.part("name", name)
        for name in NO_NAMES:
            self.no_part("name", name)

    def test_what_is_handed_in_stays(self):
        things = [LARGE, list(LARGE), [[LARGE], {"a": [1]}], with_part("needs", ["b", "c"])]
        for thing in things:
            ahead = copy.deepcopy(thing)
            is_library(thing)
            is_shelf(thing)
            self.assertEqual(thing, ahead)


class Needs(Told):
    def test_none_to_six(self):
        names = tuple("bcdefgh")
        for many in range(7):
            self.part("needs", names[:many])
        self.no_part("needs", names)

    def test_unlike(self):
        self.no_part("needs", ("b", "b"))
        self.no_part("needs", ("b", "c", "d", "b"))

    def test_not_its_own(self):
        self.no_part("needs", ("large",))
        self.no_part("needs", ("b", "large"))
        self.library(with_part("needs", ("large",), SMALL))

    def test_they_are_names_in_any_order(self):
        self.part("needs", ("c", "b"))
        for name in NAMES:
            self.part("needs", ("b", name))
        for name in NO_NAMES:
            self.no_part("needs", ("b", name))
            self.no_part("needs", (name,))


class Uses(Told):
    def use(self, thing):
        self.library(with_part("uses", (thing,), SMALL))

    def no_use(self, thing):
        self.no_library(with_part("uses", (thing,), SMALL))

    def test_none_to_eight_also_alike(self):
        for many in range(9):
            self.library(with_part("uses", (("a", "", True, True),) * many, SMALL))
        self.no_library(with_part("uses", (("a", "", True, True),) * 9, SMALL))

    def test_word_and_version(self):
        for name in NAMES:
            self.use((name, "", False, False))
            self.use(("a", name, False, False))
        self.use(("a", "", False, False))
        for name in NO_NAMES:
            self.no_use((name, "", False, False))
            if name != "":
                self.no_use(("a", name, False, False))

    def test_a_cells_use_is_a_must(self):
        self.use(("a", "", True, True))
        self.use(("a", "", False, True))
        self.use(("a", "", False, False))
        self.no_use(("a", "", True, False))

    def test_truths(self):
        for thing in (0, 1, None, "", "c", (), [], (True,)):
            self.no_use(("a", "", thing, True))
            self.no_use(("a", "", False, thing))
            self.no_use(("a", "", True, thing))

    def test_the_number_of_parts(self):
        self.no_use(())
        self.no_use(("a", "", True))
        self.no_use(("a", "", True, True, True))
        self.no_use(["a", "", True, True])
        self.no_use("abcd")


class Gives(Told):
    def gives(self, *gives):
        self.library(with_part("gives", gives, SMALL))

    def no_gives(self, *gives):
        self.no_library(with_part("gives", gives, SMALL))

    def test_none_to_eight(self):
        gives = [("a", name, False, False, 1) for name in "abcdefghi"]
        for many in range(9):
            self.gives(*gives[:many])
        self.no_gives(*gives)

    def test_word_and_version(self):
        for name in NAMES:
            self.gives((name, "", True, False, 1))
            self.gives(("a", name, False, False, 1))
        for name in NO_NAMES:
            self.no_gives((name, "", True, False, 1))
            if name != "":
                self.no_gives(("a", name, True, False, 1))

    def test_unlike_in_word_and_version(self):
        self.no_gives(("a", "v", False, False, 1), ("a", "v", True, False, 2))
        self.no_gives(("a", "v", False, False, 1), ("b", "", True, False, 1), ("a", "v", False, True, ()))
        self.no_gives(("a", "", True, False, 1), ("a", "", True, False, 1))
        self.gives(("a", "v", False, False, 1), ("a", "w", False, False, 1), ("b", "v", False, False, 1))

    def test_at_most_one_of_a_word_is_chosen(self):
        self.no_gives(("a", "v", True, False, 1), ("a", "w", True, False, 1))
        self.no_gives(("a", "", True, False, 1), ("a", "w", True, False, ()))
        self.no_gives(("a", "v", True, False, 1), ("b", "v", True, False, 1), ("a", "w", True, True, 1))
        self.gives(("a", "v", True, False, 1), ("a", "w", False, False, 1), ("b", "w", True, False, 1))
        self.gives(("a", "v", False, False, 1), ("a", "w", False, False, 1))

    def test_one_without_version_is_chosen(self):
        self.no_gives(("a", "", False, False, 1))
        self.no_gives(("a", "", False, True, ()))
        self.gives(("a", "", True, True, ()))

    def test_truths(self):
        for thing in (0, 1, None, "", "c", (), [], (True,)):
            self.no_gives(("a", "v", thing, False, 1))
            self.no_gives(("a", "", thing, False, 1))
            self.no_gives(("a", "v", False, thing, 1))

    def test_what_is_a_whole_number_or_rows(self):
        for what in (0, -1, 10 ** 29, 10 ** 30 - 1, 1 - 10 ** 30, (), (("tell", 1),), (("bring", "b"),)):
            self.gives(("a", "", True, False, what))
        for what in (True, False, None, "", "1", [], {}, [("tell", 1)], ("tell", 1), (1,), (("show", 0),)):
            self.no_gives(("a", "", True, False, what))

    def test_the_number_of_parts(self):
        self.no_gives(())
        self.no_gives(("a", "", True, False))
        self.no_gives(("a", "", True, False, 1, 1))
        self.no_gives(["a", "", True, False, 1])
        self.no_gives("abcde")

    def test_a_deeds_rows_go_by_the_librarys_uses(self):
        uses = (("a", "", True, True), ("a", "", False, True))
        for row, fits in ((("show", 0), True), (("show", 1), False), (("call", 1), True), (("call", 0), False)):
            library = ("a", (), (("b", "", True, False, (row,)),), uses, (), (), ())
            self.assertIs(is_library(library), fits)


class Marks(Told):
    def test_all_that_rise(self):
        for marks in ((), ("early",), ("own",), ("stays",), ("early", "own"), ("early", "stays"),
                      ("own", "stays"), ("early", "own", "stays")):
            self.part("marks", marks)

    def test_none_else(self):
        for marks in (("own", "early"), ("own", "own"), ("stays", "own"), ("early", "early"), ("late",),
                      ("",), ("early", "own", "stays", "stays"), ("Own",), "own", "", ("own", 1), (None,),
                      ("early", "late"), (("own",),), {"own": 1}, None):
            self.no_part("marks", marks)


class Rows(Told):
    GOOD = [("tell", 5), ("show", 0), ("put", 0, 5), ("add", 0, 5), ("skip", 0), ("call", 1), ("call", 2),
            ("bring", "b"), ("share", "b"), ("drop", "b"), ("ask", "b", "w")]

    def row(self, *rows):
        for part in ("first", "last"):
            self.part(part, rows)
        self.part("gives", (("a", "", True, False, rows),))

    def no_row(self, *rows):
        for part in ("first", "last"):
            self.no_part(part, rows)
        self.no_part("gives", (("a", "", True, False, rows),))

    def test_each_word(self):
        self.row()
        for row in self.GOOD:
            self.row(row)
            self.row(("tell", 1), row)

    def test_the_number_of_parts(self):
        for row in self.GOOD:
            self.no_row(row[:-1])
            self.no_row(row + (1,))
            self.no_row(row + ("b",))
            self.no_row(row[:1])
        self.no_row(())

    def test_kinds_of_parts_of_the_row(self):
        for row in self.GOOD:
            self.no_row(list(row))
            self.no_row(dict(enumerate(row)))
            self.no_row("".join(str(part) for part in row))
            for thing in (None, True, False, [], {}, (), (1,), "", "A", "abcdefghi"):
                for at in range(len(row)):
                    self.no_row(row[:at] + (thing,) + row[at + 1:])

    def test_other_words(self):
        for word in ("", "Tell", "tel", "tells", "done", "first", "stub", 1, 10, None, ("tell",), [], {}):
            self.no_row((word, 1))
            self.no_row((word,))
            self.no_row((word, "b"))

    def test_a_name_in_a_numbers_place_and_a_number_in_a_names(self):
        for word in ("tell", "show", "skip", "call"):
            self.no_row((word, "b"))
        for word in ("put", "add"):
            self.no_row((word, "b", 1))
            self.no_row((word, 0, "b"))
        for word in ("bring", "share", "drop"):
            self.no_row((word, 1))
        self.no_row(("ask", "b", 1))
        self.no_row(("ask", 1, "w"))

    def test_numbers_of_uses_of_the_other_kind(self):
        for word in ("show", "skip"):
            self.no_row((word, 1))
            self.no_row((word, 2))
        for word in ("put", "add"):
            self.no_row((word, 1, 0))
        self.no_row(("call", 0))

    def test_numbers_of_uses_beyond_the_last_and_below_0(self):
        cells = with_part("uses", (("a", "", True, True),) * 3, SMALL)
        deeds = with_part("uses", (("a", "", False, False),) * 3, SMALL)
        for at in (-4, -3, -2, -1, 0, 1, 2, 3, 4, 8, 10 ** 29):
            for row in (("show", at), ("skip", at), ("put", at, 1), ("add", at, 1)):
                self.assertIs(is_library(with_part("first", (row,), cells)), 0 <= at < 3)
                self.assertIs(is_library(with_part("first", (row,), deeds)), False)
            self.assertIs(is_library(with_part("last", (("call", at),), deeds)), 0 <= at < 3)
            self.assertIs(is_library(with_part("last", (("call", at),), cells)), False)

    def test_a_truth_in_a_numbers_place(self):
        uses = (("a", "", True, True), ("a", "", True, True))
        deeds = (("a", "", False, True), ("a", "", False, True))
        for truth in (True, False):
            for row in (("show", truth), ("skip", truth), ("put", truth, 1), ("add", truth, 1),
                        ("put", 0, truth), ("add", 0, truth), ("tell", truth)):
                self.no_library(("a", (), (), uses, (row,), (), ()))
            self.no_library(("a", (), (), deeds, (("call", truth),), (), ()))

    def test_numbers(self):
        for number in (0, -1, 10 ** 30 - 1, 1 - 10 ** 30):
            self.row(("tell", number), ("put", 0, number), ("add", 0, number))
        for thing in NO_NUMBERS:
            self.no_row(("tell", thing))
            self.no_row(("put", 0, thing))
            self.no_row(("add", 0, thing))
            self.no_row(("add", thing, 0))

    def test_names(self):
        for name in NAMES + ["large"]:
            self.row(("bring", name), ("share", name), ("drop", name), ("ask", name, "w"), ("ask", "b", name))
        for name in NO_NAMES:
            for row in (("bring", name), ("share", name), ("drop", name), ("ask", name, "w"), ("ask", "b", name)):
                self.no_row(row)

    def test_none_to_eight(self):
        for many in range(9):
            self.row(*[("tell", at) for at in range(many)])
        self.no_row(*[("tell", at) for at in range(9)])
        self.no_row(*[("tell", at) for at in range(500)])

    def test_one_wrong_row_among_right_ones(self):
        self.no_row(("tell", 1), ("tell",), ("tell", 1))
        self.no_row(("tell", 1), ("tell", 1), None)


class Shelves(unittest.TestCase):
    LIBRARIES = [with_part("name", name, SMALL) for name in "abcdefghijklm"]

    def test_one_to_twelve(self):
        self.assertIs(is_shelf(()), False)
        for many in range(1, 13):
            self.assertIs(is_shelf(tuple(self.LIBRARIES[:many])), True)
        self.assertIs(is_shelf(tuple(self.LIBRARIES)), False)

    def test_unlike_names(self):
        self.assertIs(is_shelf((SMALL, SMALL)), False)
        self.assertIs(is_shelf((SMALL, LARGE, with_part("marks", ("own",), SMALL))), False)
        self.assertIs(is_shelf((LARGE, SMALL)), True)

    def test_one_that_is_no_library(self):
        for thing in THINGS + [list(SMALL), SMALL[:6], with_part("needs", ("a",), SMALL)]:
            self.assertIs(is_shelf((thing,)), False)
            self.assertIs(is_shelf((SMALL, thing)), False)
            self.assertIs(is_shelf((thing, SMALL)), False)

    def test_other_things(self):
        for thing in THINGS + [SMALL, LARGE, nested(20), [SMALL], [SMALL, LARGE], {0: SMALL}, (SMALL,) * 10000]:
            self.assertIs(is_shelf(thing), False)

    def test_needs_that_the_shelf_has_not(self):
        self.assertIs(is_shelf((with_part("needs", ("x", "y"), SMALL),)), True)


if __name__ == "__main__":
    unittest.main()
