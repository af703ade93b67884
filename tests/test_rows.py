"""What each row does, and the bounds of runs (points 18 and 19)."""

import unittest

from latehall.halls import Hall
from samples import shelf_of


def told_by(*texts, main="a", **more):
    """What is told by the making of a hall of these libraries."""
    return Hall(shelf_of(*texts), main, **more).told()


class Cells(unittest.TestCase):
    def test_tell(self):
        big = 10 ** 30 - 1
        self.assertEqual(told_by(f"lib a | first ; tell 0 ; tell -5 ; tell {big}"), [(0, 0), (0, -5), (0, big)])

    def test_show_put_add(self):
        self.assertEqual(
            told_by("lib a | needs b | use x - cell | first ; show 0 ; put 0 7 ; show 0 ; add 0 -9 ; show 0 ; add 0 2",
                    "lib b | needs a | use x - cell | cell x - c 5 | first ; show 0"),
            [(0, 5), (0, 7), (0, -2), (1, 0)])

    def test_sums_may_be_of_any_length(self):
        big = 10 ** 30 - 1
        self.assertEqual(told_by(f"lib a | use x - cell | cell x - c {big} | first ; add 0 {big} ; show 0"),
                         [(0, 2 * big)])

    def test_several_uses_of_one_cell_and_of_others(self):
        text = ("lib a | use x - cell | use x v cell | use y - cell | cell x - c 1 | cell x v - 2 | cell y w c 3"
                " | first ; put 0 10 ; add 1 5 ; show 0 ; show 1 ; show 2")
        hall = Hall(shelf_of(text), "a")
        self.assertEqual(hall.told(), [(0, 15), (0, 15), (0, 3)])
        self.assertEqual(hall.cells_of(0), {0: 15, 1: 2, 2: 3})

    def test_cells_are_an_instances_own(self):
        hall = Hall(shelf_of("lib a | use x - cell | cell x - c 1 | deed run - c ; add 0 1 ; show 0"), "a")
        here, there = hall.bring("a"), hall.bring("a", apart=True)
        for hold in (here, here, there, here, there):
            hall.call(hold, "run")
        self.assertEqual(hall.told(), [(0, 2), (0, 3), (1, 2), (0, 4), (1, 3)])
        self.assertEqual((hall.cells_of(0), hall.cells_of(1)), ({0: 4}, {0: 3}))

    def test_skip(self):
        text = "lib a | use x - cell | cell x - c {} | first ; skip 0 ; tell 1 ; tell 2"
        self.assertEqual(told_by(text.format(0)), [(0, 2)])
        self.assertEqual(told_by(text.format(1)), [(0, 1), (0, 2)])
        self.assertEqual(told_by(text.format(-1)), [(0, 1), (0, 2)])

    def test_skip_at_the_last_row(self):
        self.assertEqual(told_by("lib a | use x - cell | cell x - c 0 | first ; tell 1 ; skip 0"), [(0, 1)])

    def test_skip_at_a_deeds_last_row_skips_no_row_of_the_caller(self):
        self.assertEqual(
            told_by("lib a | use x - cell | use y - may | cell x - c 0 | deed y - c ; skip 0"
                    " | first ; call 1 ; tell 1"),
            [(0, 1)])

    def test_a_skip_may_be_skipped(self):
        text = "lib a | use x - cell | cell x - c 0 | first ; skip 0 ; skip 0 ; tell 1"
        self.assertEqual(told_by(text), [(0, 1)])


class Deeds(unittest.TestCase):
    def test_call_is_done_as_rows_of_its_own_instance(self):
        hall = Hall(shelf_of("lib a | needs b | use x - cell | use y - may | cell x - c 1 | first ; call 1 ; show 0",
                             "lib b | use x w cell | deed y - c ; add 0 1 ; show 0 ; tell 3 | cell x w - 10"), "a")
        self.assertEqual(hall.means(1), [(0, 0)])
        self.assertEqual(hall.told(), [(1, 2), (1, 3), (0, 2)])

    def test_call_without_meaning(self):
        text = "lib a | use y - may | use z - must | cell y - c 0 | first ; call 0 ; tell 1 ; call 1"
        self.assertEqual(told_by(text), [(0, None), (0, 1), (0, None)])

    def test_call_of_an_empty_deed(self):
        self.assertEqual(told_by("lib a | use y - may | deed y - c | first ; call 0 ; tell 1"), [(0, 1)])

    def test_ask_a_cell(self):
        texts = ("lib a | needs b c | first ; ask b x ; ask c x ; ask a x ; ask b w", "lib b | needs c | cell w - c 2",
                 "lib c | cell x - c 5")
        self.assertEqual(told_by(*texts), [(0, 5), (0, 5), (0, 5), (0, 2)])

    def test_ask_tells_the_number_as_it_is_now(self):
        self.assertEqual(told_by("lib a | use x - cell | cell x - c 5 | first ; put 0 6 ; ask a x"), [(0, 6)])

    def test_ask_a_deed(self):
        self.assertEqual(told_by("lib a | needs b | first ; ask b y ; tell 2",
                                 "lib b | needs c", "lib c | deed y - c ; tell 1"), [(2, 1), (0, 2)])

    def test_ask_the_first_chosen_one(self):
        # By the walk, then by the gives' numbers; faint ones count as any.
        texts = ("lib a | needs b c | first ; ask b x ; ask b y", "lib b | needs c | cell x v - 1 | deed y v - ; tell 1",
                 "lib c | needs d | cell x v - 2 | cell x w cf 3 | deed y - cf ; tell 4", "lib d | cell x - c 5")
        self.assertEqual(told_by(*texts), [(0, 3), (2, 4)])
        self.assertEqual(told_by(*texts, faint=True), [(0, 3), (2, 4)])

    def test_ask_none(self):
        texts = ("lib a | needs b | first ; ask b z ; ask c x ; ask q x ; ask b v", "lib b | cell v w - 1",
                 "lib c | cell x - c 1")
        self.assertEqual(told_by(*texts), [(0, None)] * 4)

    def test_ask_in_the_walk_not_in_the_scope(self):
        texts = ("lib a | needs b | cell x - c 1 | first ; ask b x ; ask a x", "lib b")
        self.assertEqual(told_by(*texts), [(0, None), (0, 1)])

    def test_ask_in_the_rows_space(self):
        hall = Hall(shelf_of("lib a | needs b | first ; ask b x", "lib b | cell x - c 1", "lib c | first ; ask b x"), "a")
        hall.bring("c", apart=True)
        hall.bring("a", apart=True)
        self.assertEqual(hall.told(), [(0, 1), (2, None), (3, 1)])

    def test_ask_does_not_bind(self):
        hall = Hall(shelf_of("lib a | use y - may | deed y - c | first ; ask a y"), "a")
        self.assertEqual(hall.means(0), [None])


class Brings(unittest.TestCase):
    def test_bring_and_share(self):
        hall = Hall(shelf_of("lib a | first ; bring b ; share c ; tell 1", "lib b", "lib c"), "a")
        self.assertEqual(hall.told(), [(0, 1)])
        self.assertEqual(hall.state()[4], ((1, 1, False), (2, 1, True)))
        self.assertEqual(hall.all_of(0), [0, 2])

    def test_bring_again(self):
        hall = Hall(shelf_of("lib a | first ; bring b ; bring c ; share b ; bring b", "lib b", "lib c"), "a")
        self.assertEqual(hall.state()[4], ((1, 3, True), (2, 1, False)))

    def test_bring_of_what_is_refused(self):
        texts = ("lib a | first ; bring q ; bring b ; share c ; tell 1", "lib b | use x - cell | first ; tell 2",
                 "lib c | needs d e", "lib d | first ; tell 3")
        hall = Hall(shelf_of(*texts), "a")
        self.assertEqual(hall.told(), [(0, None)] * 3 + [(0, 1)])
        self.assertEqual(hall.state()[8], (1, 1))
        self.assertEqual(hall.held(), [])

    def test_bring_in_the_rows_space(self):
        hall = Hall(shelf_of("lib a", "lib b | first ; bring c ; bring a", "lib c"), "a")
        hall.bring("b", apart=True)
        self.assertEqual(hall.stands(), [(0, 0, "a"), (1, 1, "b"), (2, 1, "c"), (3, 1, "a")])
        self.assertEqual(hall.held(), [1, 2, 3])

    def test_drop(self):
        hall = Hall(shelf_of("lib a | first ; bring b ; bring b ; bring c ; drop b ; tell 1", "lib b", "lib c"), "a")
        self.assertEqual(hall.told(), [(0, 1)])
        self.assertEqual(hall.state()[4], ((1, 1, False), (2, 1, False)))

    def test_drop_of_what_is_not_held(self):
        hall = Hall(shelf_of("lib a | needs b | first ; drop b ; drop a ; drop c ; drop q", "lib b", "lib c"), "a")
        self.assertEqual(hall.told(), [(0, None)] * 4)
        hall = Hall(shelf_of("lib a | first ; bring b ; drop b ; drop b", "lib b"), "a")
        self.assertEqual(hall.told(), [(0, None)])

    def test_drop_in_the_rows_space(self):
        hall = Hall(shelf_of("lib a | first ; bring c", "lib b | first ; drop c", "lib c"), "a")
        hall.bring("b", apart=True)
        self.assertEqual(hall.told(), [(2, None)])
        self.assertEqual(hall.held(), [1, 2])

    def test_what_is_dropped_stands_to_the_end_of_the_call(self):
        texts = ("lib a | first ; bring b ; drop b ; ask b x ; bring b", "lib b | cell x - c 4 | first ; tell 1")
        hall = Hall(shelf_of(*texts), "a")
        self.assertEqual(hall.told(), [(1, 1), (0, 4)])
        self.assertEqual(hall.held(), [1])

    def test_held_anew_in_rows_comes_last_and_is_not_shared(self):
        hall = Hall(shelf_of("lib a | first ; share b ; bring c ; drop b ; bring b", "lib b", "lib c"), "a")
        self.assertEqual(hall.state()[4], ((2, 1, False), (1, 1, False)))


def times(many, row):
    return " ; ".join([row] * many)


EIGHT = times(8, "tell 1")
# Its y does eight rows, so by a call of it nine are done.
GIVING = "lib c | deed y - c ; " + EIGHT


class Runs(unittest.TestCase):
    def test_sixty_rows_are_done(self):
        told = told_by("lib a | needs c | use y - may | first ; " + times(6, "call 0") + " ; tell 8 ; tell 9", GIVING)
        self.assertEqual(told, [(1, 1)] * 48 + [(0, 8), (0, 9)])

    def test_the_sixty_first_in_a_deed(self):
        # Six calls are 54 rows, the seventh call is the 55th, and five rows of its deed are done.
        told = told_by("lib a | needs c | use y - may | first ; " + times(7, "call 0") + " ; tell 9", GIVING)
        self.assertEqual(told, [(1, 1)] * 53 + [(1, "cut")])

    def test_the_sixty_first_of_the_first_itself(self):
        # Each call is ten rows: its own, one of b and eight of c.
        for behind, told in (("", []), (" ; tell 9", [(0, "cut")]), (" ; bring q ; tell 9", [(0, "cut")])):
            texts = ("lib a | needs b | use z - may | first ; " + times(6, "call 0") + behind,
                     "lib b | needs c | use y - may | deed z - c ; call 0", GIVING)
            self.assertEqual(told_by(*texts), [(2, 1)] * 48 + told)

    def test_a_skipped_row_does_not_count(self):
        # Four rows of y are done, with the call of it five: by z 41, by three calls 15, and four more are sixty.
        text = ("lib a | use x - cell | use y - may | use z - may | cell x - c 0 | deed y - c ; "
                + times(4, "skip 0 ; tell 1") + " | deed z - c ; " + times(8, "call 1")
                + " | first ; call 2 ; " + times(3, "call 1") + " ; tell 5 ; tell 6 ; tell 7 ; tell 8")
        self.assertEqual(told_by(text), [(0, 5), (0, 6), (0, 7), (0, 8)])

    def test_a_skip_ahead_of_the_sixty_first_row(self):
        text = ("lib a | needs c | use x - cell | use y - may | use z - may | cell x - c 0"
                " | deed z - c ; tell 2 ; tell 2 ; tell 2 ; skip 0 ; tell 3{}"
                " | first ; " + times(6, "call 1") + " ; call 2{}")
        # The six calls of y are 54 rows, that of z is the 55th, its first skip the 59th.
        for in_z, behind, told in (
                ("", "", []), (" ; tell 4", "", [(0, 4)]), (" ; tell 4 ; tell 5", "", [(0, 4), (0, "cut")]),
                ("", " ; tell 6", [(0, 6)]), (" ; tell 4", " ; tell 6", [(0, 4), (0, "cut")]),
                (" ; skip 0 ; tell 4", "", []), (" ; skip 0 ; tell 4", " ; tell 6", [(0, "cut")])):
            self.assertEqual(told_by(text.format(in_z, behind), GIVING), [(1, 1)] * 48 + [(0, 2)] * 3 + told)

    def test_a_run_that_is_cut_ends_with_all_its_deeds(self):
        # The first's call is a row, then each deed is four: the fifteenth's call would be the 61st.
        text = "lib a | use y - may | deed y - c ; tell 1 ; tell 1 ; tell 1 ; call 0 ; tell 2 | first ; call 0 ; tell 3"
        self.assertEqual(told_by(text), [(0, 1)] * 45 + [(0, "cut")])

    def test_in_a_call_from_outside(self):
        hall = Hall(shelf_of("lib a | use y - may | deed y - c ; tell 1 ; tell 1 ; tell 1 ; call 0 ; tell 2"), "a")
        a = hall.bring("a")
        for many in (1, 2):
            hall.call(a, "y")
            self.assertEqual(hall.told(), ([(0, 1)] * 45 + [(0, "cut")]) * many)

    def test_asked_deeds_are_of_the_run(self):
        told = told_by("lib a | needs c | first ; " + times(7, "ask c y") + " ; tell 9", GIVING)
        self.assertEqual(told, [(1, 1)] * 53 + [(1, "cut")])

    def test_firsts_that_begin_within_are_runs_of_their_own(self):
        texts = ("lib a | needs c | use y - may | first ; " + times(6, "call 0") + " ; bring b ; tell 9",
                 "lib b | use y - may | first ; " + times(7, "call 0") + " ; tell 8", GIVING)
        # That of b is cut at its own sixty-first row; that of a goes on with its own fifty-sixth.
        self.assertEqual(told_by(*texts), [(1, 1)] * 48 + [(1, 1)] * 53 + [(1, "cut"), (0, 9)])

    def test_the_outer_run_goes_on_counting_behind_them(self):
        texts = ("lib a | needs c | use y - may | first ; bring b ; " + times(7, "call 0"),
                 "lib b | first ; tell 7 ; tell 7", GIVING)
        self.assertEqual(told_by(*texts), [(2, 7)] * 2 + [(1, 1)] * 52 + [(1, "cut")])

    def test_each_first_of_a_bring_is_one(self):
        first = " | use y - may | first ; " + times(6, "call 0")
        texts = ("lib a | needs c b" + first, "lib b | needs c d" + first, GIVING, "lib d | needs c" + first)
        self.assertEqual(told_by(*texts), [(1, 1)] * 48 * 3)

    def test_lasts(self):
        texts = ("lib a | needs c", "lib b | use y - may | last ; " + times(7, "call 0"), GIVING,
                 "lib d | needs b | use y - may | last ; tell 2 ; " + times(7, "call 0"))
        hall = Hall(shelf_of(*texts), "a")
        hall.drop(hall.bring("d"))
        self.assertEqual(hall.told(), [(2, 2)] + [(1, 1)] * 52 + [(1, "cut")] + [(1, 1)] * 53 + [(1, "cut")])

    def test_rows_that_tell_none_count(self):
        text = ("lib a | use y - may | use z - may | deed y - c ; " + times(8, "call 1")
                + " | first ; " + times(7, "call 0"))
        self.assertEqual(told_by(text), [(0, None)] * 53 + [(0, "cut")])
        text = ("lib a | use y - may | deed y - c ; " + times(8, "bring q")
                + " | first ; " + times(7, "call 0"))
        self.assertEqual(told_by(text), [(0, None)] * 53 + [(0, "cut")])


class UnderWay(unittest.TestCase):
    """Deeds that call themselves: the twenty-first one isn't done."""

    # The twentieth z's call tells None; then the rows behind it are done, in the twentieth, the nineteenth, ..
    ITSELF = "lib a | needs c | use z - may | use v - may | deed z - c ; call 0 ; {} | first ; {}call 0"
    OTHERS = ("lib b | first ; tell 9", "lib c | cell x - c 7 | deed v - c ; tell 3")

    def behind_itself(self, rows, ahead=""):
        return told_by(self.ITSELF.format(rows, ahead), *self.OTHERS)

    def test_in_a_first(self):
        text = "lib a | use y - may | deed y - c ; tell 1 ; call 0 | first ; call 0 ; tell 2"
        self.assertEqual(told_by(text), [(0, 1)] * 20 + [(0, None), (0, 2)])

    def test_in_a_call_from_outside(self):
        hall = Hall(shelf_of("lib a | use y - may | deed y - c ; tell 1 ; call 0"), "a")
        a = hall.bring("a")
        for many in (1, 2, 3):
            hall.call(a, "y")
            self.assertEqual(hall.told(), ([(0, 1)] * 20 + [(0, None)]) * many)

    def test_asked_ones_count_as_well(self):
        text = "lib a | deed y - c ; tell 1 ; ask a y | first ; ask a y ; tell 2"
        self.assertEqual(told_by(text), [(0, 1)] * 20 + [(0, None), (0, 2)])
        text = "lib a | use y - may | deed y - c ; tell 1 ; ask a z | deed z - c ; tell 2 ; call 0 | first ; call 0"
        self.assertEqual(told_by(text), [(0, 1), (0, 2)] * 10 + [(0, None)])

    def test_in_a_last(self):
        hall = Hall(shelf_of("lib a", "lib b | use y - may | deed y - c ; tell 1 ; call 0 | last ; call 0"), "a")
        hall.drop(hall.bring("b"))
        self.assertEqual(hall.told(), [(1, 1)] * 20 + [(1, None)])

    def test_deeds_done_by_turns_are_not_under_way_at_once(self):
        text = ("lib a | use y - may | use z - may | deed y - c | deed z - c ; " + times(7, "call 0") + " ; tell 1"
                + " | first ; " + times(6, "call 1"))
        self.assertEqual(told_by(text), [(0, 1)] * 6)

    def test_calls_and_asks_of_deeds_are_not_done(self):
        self.assertEqual(self.behind_itself("call 1"), [(0, None)] * 2 + [(1, 3)] * 19)
        self.assertEqual(self.behind_itself("ask c v"), [(0, None)] * 2 + [(1, 3)] * 19)

    def test_asks_of_cells_are_done(self):
        self.assertEqual(self.behind_itself("ask c x"), [(0, None)] + [(0, 7)] * 20)

    def test_brings_and_shares_are_not_done(self):
        for row in ("bring b", "share b"):
            self.assertEqual(self.behind_itself(row), [(0, None)] * 2 + [(2, 9)])

    def test_drops_are_done(self):
        # By the first's two rows, twenty calls and two rows in each of nineteen deeds it is cut.
        self.assertEqual(self.behind_itself("drop c ; tell 5", "bring c ; "),
                         [(0, None), (0, 5)] + [(0, None), (0, 5)] * 18 + [(0, "cut")])

    def test_other_rows_are_done(self):
        self.assertEqual(self.behind_itself("tell 5"), [(0, None)] + [(0, 5)] * 20)

    def test_a_call_that_is_not_done_does_not_bind(self):
        # The twentieth drops b, so the nineteenth's call means the v of c.
        texts = ("lib a | use z - may | use v - may | deed z - c ; call 0 ; call 1 ; drop b"
                 " | first ; share b ; share c ; call 0", "lib b | deed v - c ; tell 1", "lib c | deed v - c ; tell 2")
        self.assertEqual(told_by(*texts)[:3], [(0, None), (0, None), (2, 2)])

    def test_in_all_runs_at_once(self):
        # With nineteen under way b is brought; its first asks for a twentieth, which asks for one more.
        texts = ("lib a | needs c | use z - may | deed z - c ; call 0 ; bring b | first ; call 0",
                 "lib b | first ; ask c y ; tell 3", "lib c | deed y - c ; tell 1 ; ask c w | deed w - c ; tell 2")
        self.assertEqual(told_by(*texts), [(0, None), (0, None), (1, 1), (1, None), (2, 3)])

    def test_a_cut_in_a_run_within_leaves_the_outer_deeds_under_way(self):
        # As ahead, but the first of b is cut; behind it just one more may be done, no less.
        texts = ("lib a | needs c | use z - may | deed z - c ; call 0 ; bring b ; ask c u | first ; call 0",
                 "lib b | first ; " + times(7, "ask c y"),
                 GIVING + " | deed u - c ; tell 2 ; ask c w | deed w - c ; tell 3")
        self.assertEqual(told_by(*texts)[:59],
                         [(0, None)] * 3 + [(1, 1)] * 53 + [(1, "cut"), (1, 2), (1, None)])

    def test_behind_a_cut_none_is_under_way(self):
        text = ("lib a | use y - may | use z - may | deed y - c ; tell 1 ; tell 1 ; tell 1 ; tell 1 ; call 0"
                " | deed z - c ; tell 2 ; call 1")
        hall = Hall(shelf_of(text), "a")
        a = hall.bring("a")
        hall.call(a, "y")
        self.assertEqual(hall.told(), [(0, 1)] * 48 + [(0, "cut")])
        hall.call(a, "z")
        self.assertEqual(hall.told()[49:], [(0, 2)] * 20 + [(0, None)])


if __name__ == "__main__":
    unittest.main()
