"""The desk: its rows, their answers and what is refused (points 2 and 35)."""

import random
import unittest

from latehall.desk import Desk
from latehall.errors import Closed, Ended, Full, NoLibrary, NoRow, NoText, NoWord, Unmet
from latehall.halls import Hall
from latehall.texts import shown
from players import answer, done
from samples import LARGE, SMALL, shelf_of, with_part
from shelves_by_chance import history_by_chance, making_by_chance

SHELF = shelf_of(
    "lib a | needs b | use x - cell | use y - may | deed run - c ; call 1 ; add 0 1 ; show 0 | deed stay v - ; tell 4"
    " | first ; tell 1 | last ; tell -1",
    "lib b | cell x - c 5 | first ; tell 2 | last ; tell -2",
    "lib c | needs d | use z - cell | deed y - c ; tell 3 | first ; show 0 | last ; tell -3",
    "lib d | cell z - c 7 | last ; tell -4",
    "lib lost | needs nowhere",
    "lib strict | use none - cell",
    "lib keeps stays",
)
WITH_HALL = ("bring a", "drop 0", "end", "show 0 x -", "call 0 run -", "look 0 x - cell", "told", "standing", "held",
             "scope 0", "why 0")


def desk_of(*rows, shelf=SHELF):
    """A desk with this shelf, told these rows."""
    desk = Desk()
    for library in shelf:
        desk.say("shelve\n" + shown(library))
    for row in rows:
        desk.say(row)
    return desk


class Case(unittest.TestCase):
    def says(self, desk, *pairs):
        for row, text in pairs:
            told = desk.say(row)
            self.assertEqual((row, told), (row, text))
            self.assertIs(type(told), str)

    def refused(self, desk, kind, *rows, **fields):
        for row in rows:
            with self.assertRaises(kind, msg=row[:50]) as refusal:
                desk.say(row)
            self.assertEqual((type(refusal.exception), vars(refusal.exception)), (kind, fields))


class Shelve(Case):
    def test_ok(self):
        desk = Desk()
        self.says(desk, ("shelve\n" + shown(LARGE), "ok"), ("shelve\n" + shown(SMALL), "ok"), ("start a", "ok"),
                  ("standing", "0:a"))

    def test_in_the_place_of_the_one_with_its_name(self):
        desk = desk_of("shelve\nlib b\ncell x - c 8\nfirst ; tell 6", "start a")
        self.says(desk, ("told", "1:6 0:1"))

    def test_behind_a_start_it_reaches_the_halls_shelf(self):
        desk = desk_of("start a", "told")
        self.refused(desk, NoLibrary, "bring e", name="e")
        self.says(desk, ("shelve\nlib e\nneeds c\nfirst ; tell 9", "ok"), ("bring e", "2"), ("told", "3:7 2:9"),
                  ("shelve\nlib e\nfirst ; tell 8", "ok"), ("bring e", "2"), ("bring e apart", "5"), ("told", "5:8"),
                  ("start e", "ok"), ("told", "0:8"))

    def test_full(self):
        desk = desk_of(shelf=[with_part("name", name, SMALL) for name in "abcdefghijkl"])
        for start in ("standing", "start a"):
            if start != "standing":
                desk.say(start)
            self.refused(desk, Full, "shelve\nlib m", "shelve\nlib m\nneeds a")
            # That a text is wrong is told ahead of it.
            self.refused(desk, NoText, "shelve\nlib m\nneeds m", line=1)
            self.says(desk, ("shelve\nlib l\nfirst ; tell 1", "ok"))
        self.says(desk, ("bring l", "1"), ("told", "1:1"))
        self.refused(desk, NoLibrary, "bring m", name="m")
        self.refused(desk, NoLibrary, "start m", name="m")

    def test_wrong_texts(self):
        desk = desk_of("start a", "told")
        for text, line in (("", 0), ("\n", 0), ("lib", 0), ("lib a b", 0), (" lib a", 0), ("lib a\n", 1), ("lib a\n\nlib b", 1),
                           ("lib a\nneeds a", 1), ("lib a\nuse x - cell\nfirst ; call 0", 2), ("lib a\ncell x - c 01", 1),
                           ("lib a\nfirst ; tell 1\nfirst ; tell 1", 2), ("shelve\nlib a", 0), ("lib a\nlast ; tell", 1)):
            self.refused(desk, NoText, "shelve\n" + text, line=line)
            self.refused(Desk(), NoText, "shelve\n" + text, line=line)
        self.says(desk, ("standing", "0:a 1:b"), ("bring b apart", "2"), ("told", "2:2"))

    def test_numbers_of_thousands_of_figures(self):
        big = "9" * 6000
        desk = Desk()
        self.says(desk, (f"shelve\nlib a\nuse x - cell\ncell x - c {big}\nfirst ; tell -{big}", "ok"), ("start a", "ok"),
                  ("told", f"0:-{big}"), ("bring a", "0"), ("show 0 x -", big))

    def test_no_shelve(self):
        for row in ("shelve", "shelve ", "shelve lib a", "shelve \nlib a", " shelve\nlib a", "Shelve\nlib a", "\nshelve\nlib a",
                    "shelve\tlib a"):
            self.refused(Desk(), NoRow, row)
            self.refused(desk_of("start a"), NoRow, row)


class Start(Case):
    def test_as_wished(self):
        shelf = shelf_of("lib a | needs b c | use y - may | use no - must | deed run - c ; call 0", "lib b | deed y - cf ; tell 1",
                         "lib c | deed y - c ; tell 2", "lib d | deed y - c ; tell 3", "lib e | needs b c | use y - may"
                         " | deed run - c ; call 0", "lib early", "lib faint", "lib ahead")
        for row, told in {"start e": "1:1", "start e faint": "2:2", "start e ahead d": "1:3", "start e ahead c": "1:2",
                          "start e early": "1:1", "start e early faint": "2:2", "start e faint ahead d": "1:3",
                          "start e early ahead d": "1:3", "start e early faint ahead b d": "2:3"}.items():
            self.says(desk_of(row, "bring e", "call 0 run -", shelf=shelf), ("told", told))
        self.refused(desk_of(shelf=shelf), Unmet, "start a early", "start a early faint ahead d", name="a", word="no")
        for row, told in {"start early early": "0:early", "start early ahead faint": "0:early 1:faint",
                          "start ahead ahead early": "0:ahead 1:early", "start ahead faint": "0:ahead",
                          "start b ahead ahead early faint": "0:b 1:ahead 2:early 3:faint",
                          "start faint faint ahead ahead": "0:faint 1:ahead"}.items():
            self.says(desk_of(row, shelf=shelf), ("standing", told))

    def test_a_start_anew(self):
        desk = desk_of("start a", "bring c")
        self.says(desk, ("told", "1:2 0:1 2:7"), ("start d", "ok"), ("told", "none"), ("standing", "0:d"), ("held", "none"),
                  ("start a", "ok"), ("told", "1:2 0:1"), ("end", "ok"), ("start a", "ok"), ("told", "1:2 0:1"), ("bring a", "0"))

    def test_refused(self):
        for desk in (desk_of(), desk_of("start a", "bring c", "told")):
            self.refused(desk, NoLibrary, "start q", "start q early", "start a ahead d q", name="q")
            self.refused(desk, NoLibrary, "start lost", name="nowhere")
            self.refused(desk, Unmet, "start strict", name="strict", word="none")
        # The hall that was is that which is.
        self.says(desk, ("standing", "0:a 1:b 2:c 3:d"), ("held", "2"), ("told", "none"))
        self.refused(Desk(), NoLibrary, "start a", name="a")

    def test_no_start(self):
        for desk in (desk_of(), desk_of("start a", "told")):
            self.refused(desk, NoRow, "start", "start ", "start a ", " start a", "start  a", "start A", "start abcdefghi", "start a1",
                         "start -", "start a b", "start a faint early", "start a early early", "start a ahead", "start a ahead ",
                         "start a ahead d early ", "start a ahead  d", "start a ahead d d", "start a ahead d c d",
                         "start a ahead a", "start a ahead d a", "start a ahead D", "start a ahead abcdefghi", "start a ahead d -",
                         "start ahead ahead ahead", "start a early  faint", "start a\n", "start a\tearly", "start a early\n",
                         "starts a", "start a ahead 1", "start a shared")
        self.says(desk, ("standing", "0:a 1:b"))


class Bring(Case):
    def test_the_number(self):
        desk = desk_of("start a")
        self.says(desk, ("bring c", "2"), ("bring c", "2"), ("bring b", "1"), ("bring b apart", "4"), ("held", "2 1 4"),
                  ("standing", "0:a 1:b 2:c 3:d 4:b"))

    def test_as_wished(self):
        shelf = shelf_of("lib a", "lib s | needs e | use y - may | deed run - c ; call 0", "lib e | deed y - c ; tell 1",
                         "lib t | deed y - c ; tell 2", "lib m | use y - must", "lib shared", "lib early", "lib apart")
        for words, told in (("", "2:1"), (" shared", "3:2"), (" early", "2:1"), (" shared early", "3:2")):
            self.says(desk_of("start a", "bring s", "bring t" + words, "call 1 run -", shelf=shelf), ("told", told))
        self.says(desk_of("start a", "bring s early", "bring t shared", "call 1 run -", shelf=shelf), ("told", "2:1"))
        for words in (" early", " shared early", " early apart", " shared early apart"):
            self.refused(desk_of("start a", shelf=shelf), Unmet, "bring m" + words, name="m", word="y")
        for words in (" apart", " shared apart", " early apart", " shared early apart"):
            self.says(desk_of("start a", "bring shared" + words, shelf=shelf), ("bring shared" + words, "2"),
                      ("bring shared", "3"), ("bring shared shared", "3"), ("bring early early", "4"), ("bring apart apart", "5"))

    def test_no_bring(self):
        self.refused(desk_of("start a"), NoRow, "bring", "bring ", "bring a ", " bring a", "bring  a", "bring a b", "bring A",
                     "bring a early shared", "bring a apart early", "bring a shared shared", "bring a  shared", "bring a shared ",
                     "bring abcdefghi", "bring 1", "bring -", "bring a faint", "bring a ahead d", "bring a\n", "Bring a", "brings a")


class Answers(Case):
    def test_drop_and_end(self):
        desk = desk_of("start a", "bring c", "bring c", "told")
        self.says(desk, ("drop 2", "ok"), ("held", "2"), ("drop 2", "ok"), ("held", "none"), ("told", "2:-3 3:-4"),
                  ("standing", "0:a 1:b"), ("end", "ok"), ("told", "0:-1 1:-2"), ("standing", "none"), ("held", "none"))
        self.refused(desk, Ended, "end", "bring a", "bring q")
        self.refused(desk, Closed, "drop 0", "drop 2", "show 0 x -", "call 0 run -", "look 0 x - cell")
        self.says(desk, ("scope 0", "none"), ("why 0", "none"), ("told", "none"))

    def test_show_and_call(self):
        desk = desk_of("start a", "bring a", "told")
        self.says(desk, ("show 0 x -", "5"), ("show 0 x v", "5"), ("call 0 run -", "ok"), ("show 0 x -", "6"), ("told", "0:None 0:6"),
                  ("call 0 stay v", "ok"), ("told", "0:4"))
        self.refused(desk, NoWord, "call 0 stay -", "call 0 stay w", "show 0 stay v", word="stay")
        self.refused(desk, NoWord, "show 0 q -", "call 0 q -", word="q")
        self.refused(desk, Closed, "show 1 x -", "call 1 run -", "call 999999999 run -")

    def test_look(self):
        desk = desk_of("start a", "bring a", "bring c")
        self.says(desk, ("look 0 x - cell", "1:0"), ("look 0 x w cell", "1:0"), ("look 0 x - deed", "none"),
                  ("look 0 stay v deed", "0:1"), ("look 0 stay - deed", "none"), ("look 0 run v deed", "0:0"),
                  ("look 0 y - deed", "none"), ("look 2 y - deed", "2:0"), ("look 2 z - cell", "3:0"))
        self.refused(desk, Closed, "look 1 x - cell", "look 4 x - deed")

    def test_told_since_it_was_asked_last(self):
        desk = desk_of("start a")
        self.says(desk, ("told", "1:2 0:1"), ("told", "none"), ("bring c", "2"), ("bring b apart", "4"), ("told", "2:7 4:2"),
                  ("told", "none"))
        self.refused(desk, NoRow, "told ", "told 1")
        self.says(desk, ("drop 4", "ok"), ("told", "4:-2"))

    def test_told_cut(self):
        shelf = shelf_of("lib a | deed run - c ; " + " ; ".join(["ask a two"] * 8) + " | deed two - c ; "
                         + " ; ".join(["tell -2"] * 8))
        desk = desk_of("start a", "bring a", "call 0 run -", shelf=shelf)
        self.says(desk, ("told", " ".join(["0:-2"] * 53 + ["0:cut"])))

    def test_standing_and_held(self):
        desk = desk_of("start b")
        self.says(desk, ("standing", "0:b"), ("held", "none"), ("bring c", "1"), ("bring a", "3"), ("bring b", "0"),
                  ("standing", "0:b 1:c 2:d 3:a"), ("held", "1 3 0"), ("drop 1", "ok"), ("bring c", "4"),
                  ("standing", "0:b 3:a 4:c 5:d"), ("held", "3 0 4"))

    def test_scope(self):
        desk = desk_of("start a", "bring c", "bring keeps shared", "bring a apart")
        self.says(desk, ("scope 0", "0 1 4"), ("scope 1", "0 1 4"), ("scope 2", "0 1 4 2 3"), ("scope 4", "0 1 4"), ("scope 5", "5 6"),
                  ("scope 6", "6"), ("scope 7", "none"), ("scope 999999999", "none"), ("drop 2", "ok"), ("scope 2", "none"),
                  ("scope 3", "none"))

    def test_why(self):
        desk = desk_of("start a", "bring c", "bring keeps", "bring a apart", "drop 4")
        self.says(desk, ("why 0", "main 0"), ("why 1", "main 0 1"), ("why 2", "held 2"), ("why 3", "held 2 3"), ("why 4", "stays 4"),
                  ("why 5", "held 5"), ("why 6", "held 5 6"), ("why 7", "none"), ("why 999999999", "none"))


class NoRows(Case):
    def test_rows_that_want_a_hall(self):
        for desk in (Desk(), desk_of()):
            self.refused(desk, NoRow, *WITH_HALL)
        self.refused(desk, NoLibrary, "start q", name="q")
        self.refused(desk, NoRow, *WITH_HALL)
        desk.say("start a")
        self.says(desk, ("told", "1:2 0:1"))

    def test_words_left_out_doubled_exchanged(self):
        desk = desk_of("start a", "bring a", "told")
        for row in WITH_HALL[1:]:
            words = row.split(" ")
            for at in range(len(words)):
                left = " ".join(words[:at] + words[at + 1:])
                doubled = " ".join(words[:at + 1] + words[at:])
                self.refused(desk, NoRow, left, doubled)
                if at > 0:
                    self.refused(desk, NoRow, " ".join(words[:at - 1] + [words[at], words[at - 1]] + words[at + 1:]))
            self.refused(desk, NoRow, row + " ", " " + row, row.replace(" ", "  ") + " ", row + "\n", "\n" + row, row + " none",
                         row.upper(), row.replace(" ", "\t") + "\t")
            if " " in row:
                self.refused(desk, NoRow, row.replace(" ", "  "), row.replace(" ", "\t"), row.replace(" ", "\n"))
        self.says(desk, ("told", "none"), ("held", "0"), ("standing", "0:a 1:b"))

    def test_numbers(self):
        desk = desk_of("start a", "bring a", "told")
        for number in ("00", "01", "-0", "-1", "+0", "+1", "0x1", "1.0", "1e0", "0_0", "1,0", "o", "a", "1a", "a1", "-", "", " 0",
                       "1234567890", "0000000000", "1" * 5000, "0" * 5000, "-" + "1" * 5000, "\t0", "0\n", "~", "None", "True",
                       "0:0", "(0)", "'0'"):
            for row in WITH_HALL:
                if " 0" in row:
                    self.refused(desk, NoRow, row.replace(" 0", " " + number, 1))
        # Nine figures are a number, though nothing is held under it.
        self.refused(desk, Closed, "drop 123456789", "drop 999999999", "drop 100000000", "show 123456789 x -")

    def test_signs_of_every_kind(self):
        desk = desk_of("start a", "bring a", "told")
        for code in [9, 10, *range(32, 127)]:
            sign = chr(code)
            self.refused(desk, NoRow, sign, sign * 2, "told" + sign, sign + "told", "held" + sign + "1")
            if sign not in "0123456789":
                self.refused(desk, NoRow, f"drop {sign}", f"drop 0{sign}", f"drop {sign}0", f"drop 0{sign}0")
            if not sign.islower():
                self.refused(desk, NoRow, f"bring {sign}", f"bring a{sign}", f"start {sign}b", f"show 0 {sign}x -",
                             f"start a ahead {sign}", f"show 0 x{sign} -", f"show 0 x v{sign}", f"look 0 x {sign}- cell",
                             f"look 0 x - cell{sign}")
                if sign != "-":
                    self.refused(desk, NoRow, f"call 0 run {sign}")
        self.says(desk, ("told", "none"), ("held", "0"))

    def test_names(self):
        desk = desk_of("start a", "bring a", "told")
        for name in ("abcdefghi", "a" * 5000, "A", "aB", "a-", "--", "a1", "", "[", "a:b"):
            self.refused(desk, NoRow, f"bring {name}", f"start {name}", f"start a ahead {name}", f"show 0 {name} -", f"call 0 {name} -",
                         f"look 0 {name} - cell", f"show 0 x {name}", f"call 0 run {name}", f"look 0 x {name} cell",
                         f"look 0 x - {name}")
        self.refused(desk, NoRow, "show 0 - -", "bring -", "look 0 x - must", "look 0 x - may", "look 0 x - Cell", "look 0 x - -")
        self.refused(desk, NoLibrary, "bring abcdefgh", "start abcdefgh", name="abcdefgh")
        self.refused(desk, NoWord, "show 0 abcdefgh ijklmnop", word="abcdefgh")
        self.says(desk, ("told", "none"))

    def test_brackets_and_words_on_end(self):
        desk = desk_of("start a", "told")
        self.refused(desk, NoRow, "(" * 6000, "told " * 6000, " " * 6000, "bring a" + " shared" * 6000, "\n" * 6000, "",
                     "start a ahead" + " d" * 6000, "9" * 6000)
        self.says(desk, ("standing", "0:a 1:b"))


class Halls(Case):
    def test_two_desks_apart(self):
        one, other = desk_of("start a"), desk_of("start b", "told")
        self.says(one, ("bring c", "2"), ("shelve\nlib n", "ok"), ("told", "1:2 0:1 2:7"))
        self.refused(other, NoLibrary, "bring n", name="n")
        self.says(other, ("standing", "0:b"), ("told", "none"), ("held", "none"), ("bring a", "1"), ("told", "1:1"))
        self.says(one, ("standing", "0:a 1:b 2:c 3:d"), ("told", "none"))

    def test_nothing_is_changed_by_what_is_refused(self):
        desk = desk_of("start a", "bring c")
        for kind, row in ((NoRow, "drop"), (NoLibrary, "bring q"), (Unmet, "bring strict"), (Closed, "drop 0"), (NoRow, "told 1"),
                          (NoText, "shelve\nlib"), (NoLibrary, "start q"), (Unmet, "start strict"), (NoWord, "call 2 q -")):
            with self.assertRaises(kind):
                desk.say(row)
        self.says(desk, ("told", "1:2 0:1 2:7"), ("standing", "0:a 1:b 2:c 3:d"), ("held", "2"), ("bring b apart", "4"),
                  ("scope 0", "0 1"))

    def test_as_a_hall_does_by_chance(self):
        compared = 0
        for seed in range(60):
            chance = random.Random(f"desk {seed}")
            shelf, main, more = making_by_chance(chance)
            desk = desk_of(shelf=shelf)
            row = " ".join(["start", main, *["faint"] * more["faint"], *["ahead"] * bool(more["ahead"]), *more["ahead"]])
            made = answer(Hall, shelf, main, **more)
            self.assertEqual(answer(desk.say, row), ("ok", "ok") if made[0] == "ok" else made)
            if made[0] == "no":
                continue
            hall, many = made[1], 0
            for call in history_by_chance(chance):
                given = answer(desk.say, row_of(call))
                self.assertEqual(given, told_of(hall, call))
                told = hall.told()
                texts = {"told": [f"{number}:{what}" for number, what in told[many:]],
                         "standing": [f"{number}:{name}" for number, _, name in hall.stands()],
                         "held": [str(number) for number in hall.held()]}
                for row, words in texts.items():
                    self.assertEqual(desk.say(row), " ".join(words) or "none")
                for number in range(9):
                    stands = number in [row[0] for row in hall.stands()]
                    scope = [str(other) for other in hall.scope(number)] if stands else ["none"]
                    self.assertEqual(desk.say(f"scope {number}"), " ".join(scope))
                    why = hall.why(number)
                    words = ["none"] if why is None else [why[0], *[str(other) for other in why[1]]]
                    self.assertEqual(desk.say(f"why {number}"), " ".join(words))
                many = len(told)
                compared += 1
        self.assertGreater(compared, 200)


def row_of(call):
    """The desk's row of a call of a history."""
    word, *parts = call
    if word == "shelve":
        return "shelve\n" + shown(parts[0])
    if word == "bring":
        return " ".join(["bring", parts[0], *[wish for wish, truth in zip(("shared", "early", "apart"), parts[1:]) if truth]])
    words = [str(part) if part != "" else "-" for part in parts if not isinstance(part, bool)]
    return " ".join([word, *words, *[("deed", "cell")[part] for part in parts if isinstance(part, bool)]])


def told_of(hall, call):
    """What the desk answers to that row, by the hall's own calls."""
    given = answer(done, hall, call)
    if given[0] == "no":
        return given
    if call[0] in ("bring", "show"):
        return ("ok", str(given[1]))
    if call[0] == "look":
        return ("ok", "none" if given[1] is None else "{}:{}".format(*given[1]))
    return ("ok", "ok")


if __name__ == "__main__":
    unittest.main()
