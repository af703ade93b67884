"""How libraries and shelves are written and read (points 2, 6 and 7)."""

import random
import unittest

from latehall.errors import NoText
from latehall.libraries import is_library, is_shelf
from latehall.texts import read, read_shelf, shown, shown_shelf
from samples import GIVES, LARGE, LARGE_TEXT, LAST, ROWS, SMALL, USES, with_part

HEAD = "lib a\nuse x - cell\nuse y v may\n"
LETTERS = "abcdefghijklm"


def kinds(thing):
    """The kinds of a thing's parts, down to the last one."""
    if isinstance(thing, (tuple, list)):
        return (type(thing).__name__, [kinds(part) for part in thing])
    return type(thing).__name__


def figures(number):
    """The figures of a number not below 0, one by one."""
    told = ""
    while number:
        number, figure = divmod(number, 10)
        told = "0123456789"[figure] + told
    return told or "0"


class Texts(unittest.TestCase):
    def read_as(self, text, library):
        told = read(text)
        self.assertEqual(told, library)
        self.assertEqual(kinds(told), kinds(library))
        self.assertIs(is_library(told), True)
        self.assertEqual(shown(told), text)

    def refused(self, text, line):
        """A text is refused as a library's, and as a shelf's."""
        self.refused_by(read, text, line)
        self.refused_by(read_shelf, text, line)

    def refused_by(self, reader, text, line):
        with self.assertRaises(NoText, msg=text[:200]) as caught:
            reader(text)
        self.assertEqual(caught.exception.line, line, text[:200])
        self.assertIs(type(caught.exception.line), int)


class Shown(Texts):
    def test_the_smallest(self):
        self.assertEqual(shown(SMALL), "lib a")

    def test_each_line_of_the_form(self):
        self.assertEqual(shown(LARGE), LARGE_TEXT)

    def test_the_documents_deed(self):
        library = ("a", (), GIVES[:1], USES, (), (), ())
        self.assertEqual(shown(library).split("\n")[-1], "deed run - c ; tell 3 ; call 1")

    def test_marks_stand_behind_the_name(self):
        self.assertEqual(shown(with_part("marks", ("own",), SMALL)), "lib a own")
        self.assertEqual(shown(with_part("marks", ("early", "stays"), SMALL)), "lib a early stays")

    def test_needs(self):
        self.assertEqual(shown(with_part("needs", ("c", "b"), SMALL)), "lib a\nneeds c b")

    def test_uses(self):
        uses = (("x", "", True, True), ("y", "v", True, True), ("x", "", False, True), ("z", "w", False, False))
        self.assertEqual(shown(with_part("uses", uses, SMALL)),
                         "lib a\nuse x - cell\nuse y v cell\nuse x - must\nuse z w may")

    def test_flags(self):
        gives = (("a", "v", False, False, 1), ("b", "", True, False, ()), ("c", "v", False, True, 2),
                 ("d", "v", True, True, ()))
        self.assertEqual(shown(with_part("gives", gives, SMALL)),
                         "lib a\ncell a v - 1\ndeed b - c\ncell c v f 2\ndeed d v cf")

    def test_first_and_last_stand_only_where_there_are_rows(self):
        row = (("tell", 1),)
        self.assertEqual(shown(with_part("first", row, SMALL)), "lib a\nfirst ; tell 1")
        self.assertEqual(shown(with_part("last", row, SMALL)), "lib a\nlast ; tell 1")

    def test_numbers(self):
        for number in (0, 1, 10, 10 ** 29, 123456789 * 10 ** 21, 10 ** 30 - 1, 10 ** 60, 10 ** 120 + 5):
            library = with_part("gives", (("x", "", True, False, number),), SMALL)
            self.assertEqual(shown(library), "lib a\ncell x - c " + figures(number))
            library = with_part("first", (("tell", -number),), SMALL)
            sign = "-" if number else ""
            self.assertEqual(shown(library), "lib a\nfirst ; tell " + sign + figures(number))

    def test_numbers_below_0(self):
        rows = (("tell", -1), ("put", 0, -5), ("add", 0, 1 - 10 ** 30))
        library = ("a", (), (), USES, rows, (), ())
        self.assertEqual(shown(library).split("\n")[-1],
                         "first ; tell -1 ; put 0 -5 ; add 0 -" + "9" * 30)

    def test_shelves(self):
        self.assertEqual(shown_shelf((SMALL,)), "lib a")
        self.assertEqual(shown_shelf((LARGE, SMALL)), LARGE_TEXT + "\n\nlib a")
        twelve = tuple([with_part("name", name, SMALL) for name in LETTERS[:12]])
        self.assertEqual(shown_shelf(twelve), "\n\n".join(["lib " + name for name in LETTERS[:12]]))


class Read(Texts):
    def test_the_smallest_and_the_large(self):
        self.read_as("lib a", SMALL)
        self.read_as(LARGE_TEXT, LARGE)

    def test_what_was_shown(self):
        for marks in ((), ("early",), ("own",), ("stays",), ("early", "own"), ("early", "stays"),
                      ("own", "stays"), ("early", "own", "stays")):
            library = with_part("marks", marks)
            self.read_as(shown(library), library)
        for part, thing in (("needs", tuple("bcdefg")), ("uses", USES[:1] * 8), ("first", ROWS), ("last", LAST),
                            ("gives", tuple([("a", name, False, False, 1) for name in "abcdefgh"]))):
            library = with_part(part, thing, with_part("uses", USES, SMALL))
            self.read_as(shown(library), library)

    def test_truths_are_truths_and_numbers_numbers(self):
        library = ("a", (), (("x", "", True, False, 1), ("y", "v", False, True, 0)), (("x", "", True, True),),
                   (("put", 0, 1), ("put", 0, 0)), (), ())
        self.read_as(shown(library), library)

    def test_words_of_the_form_may_be_names(self):
        text = "lib lib own\nneeds needs\nuse use use must\ncell cell cell c 0\ndeed first last f ; bring tell ; ask ask own"
        library = ("lib", ("needs",), (("cell", "cell", True, False, 0),
                                       ("first", "last", False, True, (("bring", "tell"), ("ask", "ask", "own")))),
                   (("use", "use", False, True),), (), (), ("own",))
        self.read_as(text, library)

    def test_shelves(self):
        for shelf in ((SMALL,), (LARGE,), (SMALL, LARGE), (LARGE, SMALL, with_part("name", "other")),
                      tuple([with_part("name", name, SMALL) for name in LETTERS[:12]])):
            told = read_shelf(shown_shelf(shelf))
            self.assertEqual(told, shelf)
            self.assertEqual(kinds(told), kinds(shelf))
            self.assertIs(is_shelf(told), True)

    def test_a_text_of_two_libraries_is_no_librarys(self):
        self.refused_by(read, "lib a\n\nlib b", 1)
        self.refused_by(read, LARGE_TEXT + "\n\nlib b", 11)


class RefusedLines(Texts):
    def test_empty_texts_and_lines(self):
        self.refused("", 0)
        self.refused("\n", 0)
        self.refused("\nlib a", 0)
        self.refused("\n\nlib a", 0)
        self.refused("lib a\n", 1)
        self.refused("lib a\nneeds b\n", 2)
        self.refused_by(read, "lib a\n\n", 1)
        self.refused_by(read_shelf, "lib a\n\n", 2)
        self.refused_by(read_shelf, "lib a\n\n\nlib b", 2)
        self.refused_by(read_shelf, "lib a\n\nlib b\n", 3)
        self.refused_by(read_shelf, "lib a\n\nlib b\n\n", 4)

    def test_a_library_without_its_first_line(self):
        for text in ("needs b", "use x - cell", "cell x - c 1", "deed x - c", "first ; tell 1", "last ; tell 1",
                     "a", "lib", "Lib a", "lib\na", "shelf", "library a", "libs", "-"):
            self.refused(text, 0)
            self.refused(text + "\nlib a", 0)
            self.refused_by(read_shelf, "lib z\n\n" + text, 2)

    def test_first_lines(self):
        for line in ("lib ", "lib  a", "lib a ", " lib a", "lib a  own", "lib A", "lib -", "lib a1", "lib abcdefghi",
                     "lib a own early", "lib a own own", "lib a late", "lib a early own stays stays", "lib a b",
                     "lib a -", "lib a Own", "lib a ; tell 1", "lib a;", "lib a\t", "lib a, b"):
            self.refused(line, 0)
            self.refused(line + "\nneeds b", 0)

    def test_needs(self):
        self.read_as("lib a\nneeds b c d e f g", with_part("needs", tuple("bcdefg"), SMALL))
        for line in ("needs", "needs ", "needs  b", "needs b ", " needs b", "needs b  c", "needs b c d e f g h",
                     "needs b b", "needs b c b", "needs a", "needs b a", "needs B", "needs b -", "needs abcdefghi",
                     "needs b ; tell 1", "needs b,c", "need b", "needs b 1"):
            self.refused("lib a\n" + line, 1)
            self.refused("lib a\n" + line + "\nuse x - cell", 1)

    def test_uses(self):
        for line in ("use", "use x", "use x -", "use x - cell cell", "use x cell", "use x - ", "use x  cell",
                     "use x - Cell", "use x - deed", "use x - c", "use x - -", "use  - cell", "use - - cell",
                     "use X - cell", "use abcdefghi - cell", "use x abcdefghi cell", "use x V may", "use x - may ",
                     "use x - cell ; tell 1", " use x - cell", "uses x - cell", "use x -- cell", "use x - may must",
                     "use x  - may", "use x -  may", "use x v1 may"):
            self.refused("lib a\n" + line, 1)
            self.refused("lib a\nneeds b\nuse x - cell\n" + line + "\ncell x - c 1", 3)

    def test_gives(self):
        for line in ("cell", "cell x - c", "cell x - 1", "cell x c 1", "cell x - c 1 1", "cell x - c 1 ; tell 1",
                     "cell x - - 1", "cell x - f 1", "cell x v fc 1", "cell x v cc 1", "cell x v C 1", "cell x v  1",
                     "cell x  c 1", "cell  v c 1", "cell - v c 1", "cell x v c x", "cell x v c ", "cell x v c",
                     "cell X v c 1", "cell x V c 1", "cell abcdefghi - c 1", "cell x v cf- 1", "cell x v c -",
                     "deed", "deed x", "deed x -", "deed x - -", "deed x - f", "deed x c", "deed x - c 1",
                     "deed x  c", "deed  - c", "deed x v fc", "deed x v ", "deed x v", "deed x v c ", "deed x v c  ",
                     "deed x v c tell 1", "deed x v 1", "give x v c 1", " deed x v c", "cells x v c 1", "deed x v1 c"):
            self.refused("lib a\n" + line, 1)
            self.refused(HEAD + "cell z - c 1\n" + line + "\nfirst ; tell 1", 4)

    def test_likes_and_chosen_gives(self):
        for ahead, line in (("cell x v - 1", "cell x v - 1"), ("cell x v - 1", "deed x v c ; tell 1"),
                            ("deed x - c", "cell x - c 1"), ("cell x v c 1", "cell x w c 1"),
                            ("cell x v c 1", "deed x - c"), ("deed x v cf", "cell x w cf 0")):
            self.refused("lib a\n" + ahead + "\n" + line, 2)
            self.refused("lib a\n" + ahead + "\ncell y - c 0\n" + line + "\nfirst ; tell 1", 3)
        self.assertEqual(len(read("lib a\ncell x v c 1\ncell x w - 1\ncell y w c 1")[2]), 3)

    def test_ninth_ones(self):
        uses = "lib a" + "\nuse x - may" * 8
        self.assertEqual(len(read(uses)[3]), 8)
        self.refused(uses + "\nuse x - may", 9)
        gives = "lib a" + "".join([f"\ncell x {name} - 1" for name in "abcdefgh"])
        self.assertEqual(len(read(gives)[2]), 8)
        self.refused(gives + "\ncell x i - 1", 9)
        self.refused(gives + "\ndeed x i -\nfirst ; tell 1", 9)
        for head in ("first", "last", "deed x - c"):
            rows = "lib a\n" + head + " ; tell 1" * 8
            self.assertEqual(shown(read(rows)), rows)
            self.refused(rows + " ; tell 1", 1)
            self.refused(rows + " ; tell 1" * 5000, 1)

    def test_rows(self):
        for row in ("tell", "tell ", "tell 1 ", " tell 1", "tell  1", "tell 1 1", "tell x", "tell 1;", "Tell 1", "",
                    "tell 1 ;", "; tell 1", "tell 1 ; ; tell 1", "tell 1 ;tell 1", "tell 1; tell 1", "tell 1 ; ",
                    "show", "show 1", "show 2", "show -1", "show x", "show 0 0", "show 00", "show -0", "show 01",
                    "put 0", "put 0 1 1", "put 1 1", "put 2 1", "put -1 1", "put 0 x", "put 0  1", "put x 0",
                    "add 0", "add 1 5", "add 0 05", "add 0 -0", "skip", "skip 1", "skip 2", "skip 0 0",
                    "call", "call 0", "call 2", "call -1", "call 1 1", "call 01", "call x",
                    "bring", "bring 1", "bring B", "bring abcdefghi", "bring b c", "bring -", "bring ", "bring  b",
                    "share", "share 1", "share b b", "drop", "drop 1", "drop b b", "ask", "ask b", "ask b w w",
                    "ask b 1", "ask 1 w", "ask b  w", "ask  b w", "stub 0", "0", "done", "b", "show " + "9" * 5000):
            for head in ("first ; ", "last ; ", "deed z - c ; ", "first ; tell 1 ; ", "deed z v - ; call 1 ; "):
                self.refused(HEAD + head + row, 3)
                self.refused(HEAD + "cell w - c 1\n" + head + row + "\nlast ; tell 1", 4)

    def test_rows_that_may_be(self):
        for row in ("tell 1", "tell -1", "show 0", "put 0 -5", "add 0 0", "skip 0", "call 1", "bring a", "share b",
                    "drop c", "ask b w", "tell 1 ; tell 1"):
            for head in ("first ; ", "last ; ", "deed z - c ; "):
                self.assertEqual(shown(read(HEAD + head + row)), HEAD + head + row)

    def test_a_row_goes_by_the_uses_of_its_own_library(self):
        self.refused_by(read_shelf, HEAD[:-1] + "\n\nlib b\nfirst ; show 0", 5)
        self.refused_by(read_shelf, "lib b\n\n" + HEAD + "last ; call 0", 5)

    def test_first_and_last(self):
        for line in ("first", "last", "first ", "last ", "first ;", "first ; ", "first x ; tell 1", "first - ; tell 1",
                     "first tell 1", "last tell 1", "last  ; tell 1", "first;tell 1", "First ; tell 1", " first ; tell 1"):
            self.refused("lib a\n" + line, 1)

    # Lines with their ranks: a line may stand behind those of a lesser rank, and
    # of its own rank where it is a use's or a give's.
    RANKED = [(0, "needs b"), (0, "needs c"), (1, "use x - may"), (1, "use x - may"), (2, "cell x - c 1"),
              (2, "deed y - c"), (2, "deed z v -"), (3, "first ; tell 1"), (3, "first ; tell 2"),
              (4, "last ; tell 1"), (4, "last ; tell 2")]

    def test_two_lines_in_any_order(self):
        for at, (rank, line) in enumerate(self.RANKED):
            for place, (behind, other) in enumerate(self.RANKED):
                text = "lib a\n" + line + "\n" + other
                if at != place and (rank < behind or rank == behind and rank in (1, 2)):
                    self.assertEqual(shown(read(text)), text)
                elif at != place:
                    self.refused(text, 2)
                    self.refused(text + "\nlast ; tell 3", 2)

    def test_three_lines_in_any_order(self):
        one, two, three, four, five = [self.RANKED[at][1] for at in (0, 2, 4, 7, 9)]
        for lines, line in (((one, two, one), 3), ((two, three, one), 3), ((one, three, two), 3),
                            ((two, four, two), 3), ((one, four, three), 3), ((three, five, four), 3),
                            ((four, five, four), 3), ((five, one, two), 2), ((four, two, one), 2)):
            self.refused("\n".join(("lib a",) + lines), line)

    def test_a_first_line_right_behind_a_library(self):
        self.refused("lib a\nlib b", 1)
        self.refused("lib a\nneeds b\nlib b\n\nlib c", 2)


class Shelves(Texts):
    def test_a_second_library_of_a_name(self):
        self.refused_by(read_shelf, "lib a\n\nlib a", 2)
        self.refused_by(read_shelf, "lib a\nneeds b\n\nlib b\n\nlib a own\nneeds b\nwrong", 5)
        self.refused_by(read_shelf, LARGE_TEXT + "\n\n" + LARGE_TEXT, 12)

    def test_a_thirteenth_library(self):
        twelve = "\n\n".join(["lib " + name + "\nneeds z" for name in LETTERS[:12]])
        self.assertEqual(len(read_shelf(twelve)), 12)
        self.refused_by(read_shelf, twelve + "\n\nlib m", 36)
        self.refused_by(read_shelf, twelve + "\n\nlib m\nneeds z\nwrong", 36)
        self.refused_by(read_shelf, twelve + "\n", 35)

    def test_what_is_wrong_in_a_later_library(self):
        self.refused_by(read_shelf, "lib a\n\nlib b\nneeds b", 3)
        self.refused_by(read_shelf, "lib a\n\nlib b\nneeds c c\n\nlib a", 3)
        self.refused_by(read_shelf, "lib a\n\nlib b\n\nneeds c", 4)

    def test_blank_lines_that_are_not_empty(self):
        self.refused_by(read_shelf, "lib a\n \nlib b", 1)
        self.refused_by(read_shelf, "lib a\n\n \nlib b", 2)


class Numbers(Texts):
    def library_of(self, number):
        return ("a", (), (("x", "", True, False, number),), (("x", "", True, True),), (("tell", number),),
                (("put", 0, number),), ())

    def text_of(self, word):
        return f"lib a\nuse x - cell\ncell x - c {word}\nfirst ; tell {word}\nlast ; put 0 {word}"

    def test_those_that_are_written(self):
        for number in (0, 1, 9, 10, 100, 101, 10 ** 29, 10 ** 30 - 1, 12345678901234567890):
            self.read_as(self.text_of(figures(number)), self.library_of(number))
            if number:
                self.read_as(self.text_of("-" + figures(number)), self.library_of(-number))

    def test_those_that_are_none(self):
        words = ["", "-", "--1", "-0", "00", "01", "-01", "000", "+1", "1-", "1.0", "1_0", "0x1", "1e1", "x", "1a",
                 "- 1", "1 ", "0-", "-00", "1,000", "one", "\u0661", "\u00b2", "0" * 5000, "0" + "1" * 5000,
                 "1" * 5000 + "x", "-" + "0" * 5000, "9" * 100 + "-", "-" * 5000]
        for word in words:
            self.refused("lib a\ncell x - c " + word, 1)
            self.refused("lib a\nfirst ; tell " + word, 1)
            self.refused("lib a\nuse x - cell\ndeed x - c ; put 0 " + word + " ; tell 1", 2)
            self.refused("lib a\nuse x - cell\nlast ; add 0 " + word, 2)

    def test_thousands_of_figures(self):
        for many in (59, 60, 61, 119, 120, 121, 4299, 4300, 4301, 5000, 12345):
            for sign in (1, -1):
                word = ("-" if sign < 0 else "") + "9" * many
                self.read_as(self.text_of(word), self.library_of(sign * (10 ** many - 1)))
                word = ("-" if sign < 0 else "") + "1" + "0" * many
                self.read_as(self.text_of(word), self.library_of(sign * 10 ** many))

    def test_the_longest_texts(self):
        ahead = "lib a\ncell x - c "
        many = 60000 - len(ahead)
        self.assertEqual(read(ahead + "9" * many)[2][0][4], 10 ** many - 1)
        self.refused(ahead + "9" * (many - 1) + "x", 1)
        self.refused("lib a" + " b" * 29997, 0)
        self.refused("lib a\nneeds" + " b" * 29994, 1)
        self.refused("\n" * 60000, 0)
        self.refused("(" * 60000, 0)
        self.refused("lib a\nfirst" + " ; " * 19996, 1)


class Any(Texts):
    """Texts that were changed a little: read or refused as their lines tell."""

    SIGNS = "abcxyzv01239- ;\n"

    def changed(self, chance, text):
        lines = text.split("\n")
        at = chance.randrange(len(lines))
        how = chance.randrange(6)
        if how == 0:
            del lines[at]
        elif how == 1:
            lines.insert(at, chance.choice(lines))
        elif how == 2:
            lines.insert(at, "")
        elif how == 3:
            other = chance.randrange(len(lines))
            lines[at], lines[other] = lines[other], lines[at]
        else:
            text = "\n".join(lines)
            place = chance.randrange(len(text) + 1)
            return text[:place] + chance.choice(self.SIGNS) + text[place + (how == 4):]
        return "\n".join(lines)

    def test_the_line_told_is_the_first_that_does_not_go_on(self):
        chance = random.Random(7)
        shelf = shown_shelf((LARGE, SMALL, ("b", ("a",), GIVES, USES, LAST, ROWS, ("own",))))
        refused = 0
        for _ in range(3000):
            text = shelf
            for _ in range(chance.randrange(1, 3)):
                text = self.changed(chance, text)
            lines = text.split("\n")
            try:
                told = read_shelf(text)
                self.assertIs(is_shelf(told), True, text)
                self.assertEqual(shown_shelf(told), text)
            except NoText as refusal:
                refused += 1
                line = refusal.line
                ahead = lines[:line]
                # Behind an empty line a library of another name always goes on.
                if ahead and ahead[-1] == "":
                    ahead.append("lib zzz")
                if ahead:
                    self.assertEqual(shown_shelf(read_shelf("\n".join(ahead))), "\n".join(ahead))
                self.refused_by(read_shelf, "\n".join(lines[:line + 1]), line)
        self.assertGreater(refused, 500)


if __name__ == "__main__":
    unittest.main()
