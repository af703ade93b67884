"""Where a late hall and an early one part (points 2 and 27)."""

import copy
import random
import unittest

from latehall.history import played
from latehall.late import parted
from plain_reader import No, Reader
from players import done
from samples import needing, shelf_of
from shelves_by_chance import NAMES, WORDS, history_by_chance, making_by_chance, some


def bring(name, shared=False, early=False, apart=False):
    return ("bring", name, shared, early, apart)


class Case(unittest.TestCase):
    def told(self, thing, shelf, calls, main="a", **more):
        """What is told of a history, and of it with each beginning and with more behind."""
        before = copy.deepcopy(calls)
        self.assertEqual(parted(shelf, main, calls, **more), thing)
        self.assertEqual(calls, before)
        if thing is None:
            self.assertEqual(played(shelf, main, calls, early=True, **more), played(shelf, main, calls, **more))
            return
        # The call in which they part is the last that counts, and all ahead of it is alike.
        behind = thing[1] + 1
        self.assertEqual(parted(shelf, main, calls[:behind], **more), thing)
        self.assertEqual(parted(shelf, main, [*calls, bring("q"), ("end",), ("end",)], **more), thing)
        if behind > 0:
            self.assertIsNone(parted(shelf, main, calls[:thing[1]], **more))


class UnmetByEarly(Case):
    def test_of_the_making(self):
        shelf = shelf_of("lib a | use x - may | use y - must | use z - must", "lib b | needs a")
        self.told(("unmet", -1, "a", "y"), shelf, [])
        self.told(("unmet", -1, "a", "y"), shelf, [], main="b")
        self.told(("unmet", -1, "a", "y"), shelf, [bring("b"), ("end",)])

    def test_of_the_making_refused_by_both(self):
        shelf = shelf_of("lib a | use y - must | use x - cell", "lib b | use x - cell | use y - must", "lib c | needs q y",
                         "lib d | needs b")
        self.told(("unmet", -1, "a", "y"), shelf, [bring("b")])
        self.told(None, shelf, [bring("a")], main="b")
        self.told(None, shelf, [bring("a")], main="d")
        self.told(None, shelf, [bring("a")], main="c")
        self.told(None, shelf, [], main="q")
        self.told(("unmet", -1, "a", "y"), shelf, [], main="d", ahead=("a",))

    def test_of_a_call(self):
        shelf = shelf_of("lib a", "lib b | use y - must", "lib c | use y - must | use x - cell",
                         "lib d | use x - cell | use y - must", "lib e | use y - may", "lib f early | use y - must")
        self.told(("unmet", 0, "b", "y"), shelf, [bring("b")])
        self.told(("unmet", 2, "b", "y"), shelf, [bring("e"), bring("q"), bring("b", apart=True)])
        # The late one refuses it, too, with another word.
        self.told(("unmet", 1, "c", "y"), shelf, [bring("d"), bring("c")])
        # Both refuse it alike.
        self.told(None, shelf, [bring("d"), bring("b", early=True), bring("f"), bring("e")])

    def test_a_give_that_is_there_is_none(self):
        shelf = shelf_of("lib a | deed y - c", "lib b | use y - must")
        self.told(None, shelf, [bring("b"), bring("b")])
        self.told(("unmet", 1, "b", "y"), shelf, [bring("b"), bring("b", apart=True)])


class RowsRefused(Case):
    def test_bring_and_share(self):
        for word in ("bring", "share"):
            shelf = shelf_of(f"lib a | needs b | deed run - c ; {word} c", f"lib b | deed go v - ; {word} b ; {word} c",
                             "lib c | needs d", "lib d | use y - must")
            self.told(("row", 1, 0, "c"), shelf, [bring("a"), ("call", 0, "run", "")])
            self.told(("row", 1, 1, "c"), shelf, [bring("a"), ("call", 0, "go", "v")])

    def test_in_the_making_and_in_a_last(self):
        shelf = shelf_of("lib a | first ; bring b | last ; bring c", "lib b | use y - must", "lib c | use z - must")
        self.told(("row", -1, 0, "b"), shelf, [])
        # In a last nothing is brought by either.
        self.told(None, shelf_of("lib a | last ; bring b", "lib b | use y - must"), [("end",)])

    def test_refused_by_both(self):
        shelf = shelf_of("lib a | deed run - c ; bring b ; bring q ; bring c", "lib b | use y - must | use x - cell",
                         "lib c early | use y - must")
        self.told(None, shelf, [bring("a"), ("call", 0, "run", "")])

    def test_though_nothing_is_told_by_it(self):
        # Both tell None, the late one as a row of another kind.
        shelf = shelf_of("lib a | use n - may | deed run - c ; bring b ; call 0", "lib b | use y - must")
        self.told(("row", 1, 0, "b"), shelf, [bring("a"), ("call", 0, "run", "")])


# s gives y to all while it is held and shared, e to those alone that need it.
MEANT_TEXTS = ("lib c | needs e | use y - may | deed run - c ; call 0", "lib e | deed y - c ; tell 1",
               "lib s | cell x - c 1 | deed y - c ; tell 2", "lib t | deed y - c ; tell 1", "lib n")
MEANT = shelf_of("lib a", *MEANT_TEXTS)


class UsesMeant(Case):
    def test_another_give(self):
        calls = [bring("c"), bring("s", shared=True), ("call", 1, "run", ""), ("call", 1, "run", "")]
        self.told(("use", 2, 1, 0, (3, 1), (2, 0)), MEANT, calls)
        self.told(None, MEANT, [calls[0], calls[2], *calls[1:]])

    def test_though_both_tell_alike(self):
        calls = [bring("c"), bring("t", shared=True), ("call", 1, "run", "")]
        self.told(("use", 2, 1, 0, (3, 0), (2, 0)), MEANT, calls)

    def test_none_meant_late(self):
        shelf = shelf_of("lib a", "lib c | use y - may | deed run - c ; call 0", "lib s stays | deed y - c ; tell 2")
        calls = [bring("s", shared=True), bring("c"), ("drop", 1), ("call", 2, "run", "")]
        self.told(("use", 3, 2, 0, None, (1, 0)), shelf, calls)

    def test_none_meant_by_both(self):
        # What has no meaning as it comes is looked for anew by both.
        shelf = shelf_of("lib a", "lib c | use y - may | deed run - c ; call 0", "lib s | deed y - c ; tell 2")
        self.told(None, shelf, [bring("c"), ("call", 1, "run", ""), bring("s", shared=True), ("call", 1, "run", ""),
                                ("drop", 2), ("call", 1, "run", "")])

    def test_in_the_making(self):
        shelf = shelf_of("lib a | first ; bring c ; share s ; ask c run", *MEANT_TEXTS)
        self.told(("use", -1, 1, 0, (3, 1), (2, 0)), shelf, [bring("c"), ("end",)])

    def test_in_a_last(self):
        # As all goes no list of all is left, so that the late one means nothing by it.
        shelf = shelf_of("lib a | needs e", "lib c | use y - may | last ; call 0", "lib e | deed y - c")
        self.told(("use", 1, 2, 0, None, (1, 0)), shelf, [bring("c"), ("end",)])
        self.told(None, shelf, [bring("c"), ("drop", 2)])

    def test_a_library_that_is_early_or_is_brought_early(self):
        shelf = shelf_of("lib a", "lib c early | needs e | use y - may | deed run - c ; call 0",
                         "lib d | needs e | use y - may | deed run - c ; call 0", "lib e | deed y - c",
                         "lib s | deed y - c")
        calls = [bring("c"), bring("s", shared=True), ("call", 1, "run", "")]
        self.told(None, shelf, calls)
        self.told(None, shelf, [bring("d", early=True), *calls[1:]])
        self.told(("use", 2, 1, 0, (3, 0), (2, 0)), shelf, [bring("d"), *calls[1:]])

    def test_faint(self):
        shelf = shelf_of("lib a", "lib c | needs e | use y - may | deed run - c ; call 0", "lib e | deed y - c",
                         "lib s | deed y - cf")
        calls = [bring("c"), bring("s", shared=True), ("call", 1, "run", "")]
        self.told(("use", 2, 1, 0, (3, 0), (2, 0)), shelf, calls)
        self.told(None, shelf, calls, faint=True)

    def test_names_ahead(self):
        calls = [bring("c"), bring("s", shared=True), ("call", 1, "run", "")]
        self.told(("use", 2, 1, 0, (3, 1), (2, 0)), MEANT, calls)
        # With e, or with c and so with e, in the main's walk nothing that is shared is ahead of it.
        calls[2] = ("call", 2, "run", "")
        self.told(None, MEANT, calls, ahead=("e",))
        self.told(None, MEANT, calls, ahead=("c",))
        self.told(("use", 2, 2, 0, (4, 1), (3, 0)), MEANT, calls, ahead=("n",))

    def test_twenty_deeds_under_way(self):
        # A call isn't done where twenty are under way, so its use isn't looked for by either.
        words = ["w" + letter for letter in "abcdefghijklmnopqrst"]
        names = [letter for letter in "pqr" for _ in range(8)]
        deeds = {name: [] for name in names}
        for at, word in enumerate(words[:19]):
            deeds[names[at]].append(f" | deed {word} - c ; ask {names[at + 1]} {words[at + 1]}")
        deeds["r"].append(" | deed wt - c ; call 0")
        heads = {"p": "lib p", "q": "lib q", "r": "lib r | needs e | use y - may"}
        shelf = shelf_of("lib a | needs p q", *[head + "".join(deeds[name]) for name, head in heads.items()],
                         "lib e | deed y - c", "lib s | deed y - c")
        calls = [bring("p"), bring("r"), bring("s", shared=True)]
        self.told(None, shelf, [*calls, ("call", 1, "wa", "")])
        self.told(("use", 3, 3, 0, (5, 0), (4, 0)), shelf, [*calls, ("call", 1, "wb", "")])


class Gone(Case):
    def test_what_only_the_early_one_keeps(self):
        shelf = shelf_of("lib a", "lib c | use y - may | deed run - c ; call 0", "lib s | deed y - c ; tell 2 | last ; tell 3")
        calls = [bring("s", shared=True), bring("c"), ("drop", 1)]
        self.told(("gone", 2, 1), shelf, calls)
        self.told(None, shelf, [*calls[:2], ("call", 2, "run", ""), calls[2]])

    def test_the_least(self):
        # 1 goes in both; of 2, 3 and 4, which only the early one keeps, 2 is the least.
        shelf = shelf_of("lib a", "lib p | needs r s t", "lib c | use y - may", "lib s | needs t r | deed y - c", "lib t",
                         "lib r | needs s")
        self.told(("gone", 2, 2), shelf, [bring("p", shared=True), bring("c"), ("drop", 1)])

    def test_in_the_making(self):
        shelf = shelf_of("lib a | first ; share s ; bring c ; drop s", "lib s | deed y - c", "lib c | use y - may")
        self.told(("gone", -1, 1), shelf, [])

    def test_ahead_of_the_lasts(self):
        # The last of what goes would part them, too, but that it goes is ahead of it.
        shelf = shelf_of("lib a", "lib c | use y - may", "lib s | use z - may | deed y - c | last ; call 0",
                         "lib z stays | deed z - c")
        calls = [bring("z", shared=True), bring("s", shared=True), bring("c"), ("drop", 1), ("drop", 2)]
        self.told(("gone", 4, 2), shelf, calls)

    def test_all_go_by_an_end(self):
        shelf = shelf_of("lib a | needs s", "lib c | needs s | use y - may", "lib s | deed y - c ; tell 2 | last ; tell 3")
        self.told(None, shelf, [bring("c"), ("end",)])
        self.told(None, shelf, [bring("c"), ("end",), ("end",), bring("c"), ("drop", 2)])


class First(Case):
    def test_of_several_in_the_order_of_what_is_done(self):
        shelf = shelf_of("lib a | deed run - c ; ask c go ; bring b | deed back v - ; bring b ; ask c go",
                         "lib b | use n - must", "lib c | needs e | use y - may | deed go - c ; call 0", "lib e | deed y - c",
                         "lib s | deed y - c")
        calls = [bring("a"), bring("c"), bring("s", shared=True)]
        self.told(("use", 3, 1, 0, (3, 0), (2, 0)), shelf, [*calls, ("call", 0, "run", ""), bring("b")])
        self.told(("row", 3, 0, "b"), shelf, [*calls, ("call", 0, "back", "v"), bring("b")])
        self.told(("unmet", 3, "b", "n"), shelf, [*calls, bring("b"), ("call", 0, "back", "v")])

    def test_none(self):
        shelf = needing(a="b", b="c", c="a")
        self.told(None, shelf, [])
        self.told(None, shelf, [bring("b"), bring("q"), ("drop", 1), ("drop", 1), ("end",), ("end",)])


class Noting(Reader):
    """A plain reader of the tests' own that keeps what hangs on meanings."""

    def __init__(self, *told, **more):
        self.notes = []
        super().__init__(*told, **more)

    def note(self, *doing):
        self.notes.append(doing)

    def hold(self, number):
        self.held(number)
        return number

    def bring(self, name, **truths):
        number = super().bring(name, **truths)
        return type("Brought", (), {"number": number})


def answered(call, *told, **more):
    try:
        return ("ok", call(*told, **more))
    except No as refusal:
        return ("no", *refusal.args)


def parted_plainly(shelf, main, calls, **more):
    """Where they part, by two readers that are played to the end of each call."""
    late, early = [answered(Noting, shelf, main, early=truth, **more) for truth in (False, True)]
    readers = [late[1], early[1]]
    for k in range(-1, len(calls)):
        if k >= 0:
            late, early = [answered(done, reader, calls[k]) for reader in readers]
        if early[:2] == ("no", "Unmet") and late != early:
            return ("unmet", k, *early[2:])
        if k == -1 and late[0] == "no":
            return None
        for one, other in zip(*[reader.notes for reader in readers]):
            if one != other:
                if one[0] == "gone":
                    return ("gone", k, min(set(one[1:]) - set(other[1:])))
                return ("row", k, *one[1:3]) if one[0] == "row" else ("use", k, *one[1:], other[3])
    return None


def sharing_by_chance(chance):
    """Calls by which much is shared, dropped and called."""
    calls = []
    for _ in range(25):
        word = chance.choice(["bring", "bring", "drop", "call"])
        if word == "bring":
            calls.append(bring(chance.choice(NAMES), shared=chance.random() < 0.7))
        elif word == "drop":
            calls.append((word, chance.randint(0, 9)))
        else:
            calls.append((word, chance.randint(0, 9), chance.choice(WORDS), ""))
    return calls


def loose_library(chance, name):
    """A library that hangs on little else but what is shared."""
    uses = tuple([(chance.choice(WORDS), "", False, chance.random() < 0.1) for _ in range(2)])
    rows = [("call", 0), ("call", 1), ("tell", 1), ("bring", chance.choice(NAMES)), ("share", chance.choice(NAMES)),
            ("drop", chance.choice(NAMES))]
    gives = tuple([(word, "", True, False, tuple(chance.choices(rows, k=2)))
                   for word in chance.sample(WORDS, chance.choice([1, 2]))])
    first, last = [tuple(chance.choices(rows, k=chance.choice([0, 0, 1]))) for _ in range(2)]
    marks = ("stays",) if chance.random() < 0.1 else ()
    return (name, some(chance, [other for other in NAMES if other != name], chance.choice([0, 1])), gives, uses,
            first, last, marks)


class ByChance(Case):
    def test_by_chance(self):
        kinds = {}
        for seed in range(500):
            chance = random.Random(f"late {seed}")
            shelf, main, more = making_by_chance(chance)
            calls = history_by_chance(chance)
            if seed % 2:
                shelf = tuple([loose_library(chance, name) for name in NAMES])
                calls = sharing_by_chance(chance)
            thing = parted_plainly(shelf, main, calls, **more)
            with self.subTest(seed=seed):
                self.told(thing, shelf, calls, main, **more)
            kind = thing and thing[0]
            kinds[kind] = kinds.get(kind, 0) + 1
        for kind in ("unmet", "row", "use", "gone", None):
            self.assertGreater(kinds.get(kind, 0), 3, kinds)


if __name__ == "__main__":
    unittest.main()
