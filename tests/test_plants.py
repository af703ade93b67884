"""Plants: they answer and tell as halls do, by images in a room (points 2, 20 to 22, 30 and 31)."""

import random
import unittest

from latehall.errors import Closed, Ended, Full, NoLibrary, NoWord, Unmet, Vacant
from latehall.halls import Hall
from latehall.holds import Hold
from latehall.images import begins, filled, image, wrong_place
from latehall.plants import Plant
from latehall.rooms import Room
from players import answer, done, played_by
from samples import SMALL, THINGS, needing, shelf_of, with_part
from shelves_by_chance import history_by_chance, making_by_chance

PADS = (0, 1, 5, 333, 2000)


def bring(name, shared=False, early=False, apart=False):
    return ("bring", name, shared, early, apart)


def numbers_of(plant):
    """The numbers of each image, by the instances' numbers."""
    return {number: [plant.number_at(base + at) for at in range(length)] for base, length, number in plant.images()}


class Case(unittest.TestCase):
    def alike(self, hall, plant, pad=0):
        """A plant stands as a hall does, and its images bear what the hall's uses mean and its cells have."""
        self.assertEqual((plant.told(), plant.state(), len(plant)), (hall.told(), hall.state(), len(hall)))
        images = plant.images()
        self.assertEqual(sorted([number for _, _, number in images]), [number for number, _, _ in hall.stands()])
        self.assertEqual(images, sorted(images))
        ends = [pad] + [base + length for base, length, _ in images]
        self.assertTrue(all([end <= row[0] for end, row in zip(ends, images)]), (ends, images))
        bases = {number: base for base, _, number in images}
        begun = {number: begins(library) for number, _, library in hall.state()[5]}
        numbers = numbers_of(plant)
        for number, _, library in hall.state()[5]:
            addresses = {}
            for use, means in enumerate(hall.means(number)):
                if means is None:
                    # A stub's first place, as it is laid.
                    addresses[use] = bases[number] + image(library)[0][use]
                else:
                    cells, deeds, _, _ = begun[means[0]]
                    addresses[use] = bases[means[0]] + {**cells, **deeds}[means[1]]
            lies = filled(image(library), bases[number], addresses)
            lies[:len(library[3])] = [addresses[use] for use in range(len(library[3]))]
            for give, worth in hall.cells_of(number).items():
                lies[begun[number][0][give]] = worth
            self.assertEqual(numbers[number], lies)
            self.assertIsNone(wrong_place(library, bases[number], numbers[number]))
            self.vacant(plant, bases[number] - 1, ends)
        self.vacant(plant, 0, ends)
        for address in (max(ends), max(ends) + 1, -1, -10 ** 29, 10 ** 29):
            self.vacant(plant, address, ends)

    def vacant(self, plant, address, ends):
        if not any([base <= address < base + length for base, length, _ in plant.images()]):
            with self.assertRaises(Vacant) as refusal:
                plant.number_at(address)
            self.assertEqual(refusal.exception.address, address)

    def both(self, shelf, main, calls, pads=PADS, **more):
        """A hall and plants are told the same; told is what they answer."""
        answers = played_by(Hall, shelf, main, calls, **more)
        for pad in pads:
            made = answer(Hall, shelf, main, **more), answer(Plant, shelf, main, pad=pad, **more)
            if made[0][0] == "no":
                self.assertEqual(made[1], made[0])
                continue
            hall, plant = made[0][1], made[1][1]
            self.alike(hall, plant, pad)
            for call in calls:
                before = (plant.state(), plant.told(), plant.images(), numbers_of(plant))
                given = answer(done, plant, call)
                self.assertEqual(given, answer(done, hall, call))
                self.alike(hall, plant, pad)
                if given[0] == "no":
                    self.assertEqual((plant.state(), plant.told(), plant.images(), numbers_of(plant)), before)
        return answers


SHELF = shelf_of(
    "lib a | needs b | use x - cell | use y - may | deed run - c ; call 1 ; add 0 1 ; show 0 | deed stay v - ; tell 4"
    " | first ; tell 1 | last ; tell -1",
    "lib b | cell x - c 5 | first ; tell 2 | last ; tell -2",
    "lib c | needs d | use z - cell | deed y - c ; tell 3 | first ; show 0 | last ; tell -3",
    "lib d | cell z - c 7 | last ; tell -4",
    "lib lost | needs nowhere",
    "lib strict | use none - cell",
)


class Calls(Case):
    def test_each_call(self):
        calls = [bring("a"), bring("c", shared=True), bring("c"), bring("b", apart=True), bring("a", early=True, apart=True),
                 ("look", 0, "x", "", True), ("look", 0, "stay", "v", False), ("look", 0, "q", "", True),
                 ("call", 0, "run", ""), ("show", 0, "x", ""), ("call", 0, "stay", "v"), ("drop", 2), ("drop", 2),
                 ("call", 0, "run", ""), ("shelve", with_part("name", "e", SMALL)), bring("e"), ("end",)]
        told = [answer[0] for answer in self.both(SHELF, "a", calls)]
        self.assertEqual(told[1:6], [("ok", number) for number in (0, 2, 2, 4, 5)])
        self.assertEqual(told[6:12], [("ok", what) for what in ((1, 0), (0, 1), None, None, 6, None)])
        self.assertEqual(told[12:], [("ok", what) for what in (None, None, None, None, 7, None)])

    def test_refused_ones(self):
        calls = [bring("q"), bring("lost"), bring("strict"), bring("strict", apart=True), bring("a"), ("call", 0, "stay", ""),
                 ("show", 0, "run", ""), ("drop", 1), ("look", 1, "x", "", True), ("call", 7, "run", ""), ("show", -1, "x", "")]
        told = self.both(SHELF, "a", calls)[1:]
        self.assertEqual([given[0][1:] for given in told if given[0][0] == "no"], [
            ("NoLibrary", ("q",)), ("NoLibrary", ("nowhere",)), ("Unmet", ("strict", "none")), ("Unmet", ("strict", "none")),
            ("NoWord", ("stay",)), ("NoWord", ("run",)), *[("Closed", ())] * 4])

    def test_their_classes_and_fields(self):
        plant = Plant(SHELF, "a")
        hold = plant.bring("a")
        for kind, fields, call in (
                (NoLibrary, {"name": "q"}, lambda: plant.bring("q")),
                (Unmet, {"name": "strict", "word": "none"}, lambda: plant.bring("strict")),
                (NoWord, {"word": "y"}, lambda: plant.call(hold, "y")),
                (NoWord, {"word": "run"}, lambda: plant.call(hold, "run", version="q") or plant.show(hold, "run")),
                (Closed, {}, lambda: plant.hold(1)),
                (NoLibrary, {"name": "q"}, lambda: Plant(SHELF, "q")),
                (NoLibrary, {"name": "nowhere"}, lambda: Plant(SHELF, "lost", pad=3)),
                (NoLibrary, {"name": "w"}, lambda: Plant(SHELF, "a", ahead=("w",))),
                (Unmet, {"name": "strict", "word": "none"}, lambda: Plant(SHELF, "strict"))):
            with self.assertRaises(kind) as refusal:
                call()
            self.assertEqual((type(refusal.exception), vars(refusal.exception)), (kind, fields))

    def test_full(self):
        names = "abcdefghijkl"
        shelf = tuple([with_part("name", name, SMALL) for name in names])
        thirteenth = with_part("name", "m", SMALL)
        again = with_part("first", (("tell", 1),), with_part("name", "l", SMALL))
        told = self.both(shelf, "a", [("shelve", thirteenth), bring("m"), ("shelve", again), bring("l")])
        self.assertEqual(told[1][0], ("no", "Full", ()))
        self.assertEqual(told[4], (("ok", 1), [(1, 1)]))
        with self.assertRaises(Full):
            Plant(shelf, "a").shelve(thirteenth)

    def test_the_end(self):
        calls = [bring("a"), bring("c", apart=True), ("end",), ("end",), bring("a"), bring("q"), ("drop", 0),
                 ("look", 0, "x", "", True), ("call", 0, "run", ""), ("show", 0, "x", ""), ("shelve", SMALL)]
        told = self.both(SHELF, "a", calls)
        self.assertEqual(told[3][1], [(2, -3), (3, -4), (0, -1), (1, -2)])
        self.assertEqual([given[0][1] for given in told[4:]], ["Ended"] * 3 + ["Closed"] * 4 + [None])
        plant = Plant(SHELF, "a", pad=10)
        plant.end()
        self.assertEqual((len(plant), plant.images()), (0, []))
        for call in (plant.end, lambda: plant.bring("a")):
            with self.assertRaises(Ended):
                call()

    def test_names_ahead_early_and_faint(self):
        shelf = shelf_of("lib a | needs b c | use y - may | deed run - c ; call 0", "lib b | deed y - cf ; tell 1",
                         "lib c | deed y - c ; tell 2", "lib strict | use y w must | use z - must", "lib d | deed y - c ; tell 3")
        calls = [bring("a"), ("call", 0, "run", ""), bring("strict"), bring("strict", early=True)]
        rows = []
        for more in ({}, {"early": True}, {"faint": True}, {"ahead": ("d",)}, {"ahead": ("d",), "early": True, "faint": True}):
            told = self.both(shelf, "a", calls, **more)
            rows.append((told[2][1], told[3][0][0]))
            self.assertEqual((told[4][0][0] == "no"), told[3][0][0] == "no")
        self.assertEqual(rows, [([(1, 1)], "ok"), ([(1, 1)], "no"), ([(2, 2)], "ok"), ([(1, 3)], "ok"), ([(1, 3)], "no")])


    def test_what_is_not_told_is_as_a_hall_has_it(self):
        shelf = shelf_of("lib a | use y - may | deed run - c ; call 0",
                         "lib b | use n - must | cell z - c 1 | deed y - c ; tell 1 | deed w v - ; tell 2")
        hall, plant = Hall(shelf, "a"), Plant(shelf, "a")
        self.assertEqual(plant.images()[0][0], 0)
        for one in (hall, plant):
            a, b = one.bring("a"), one.bring("b")
            self.assertEqual((a.number, b.number, one.look(b, "z"), one.look(b, "y"), one.look(b, "w")), (0, 1, None, (1, 1), None))
            self.assertEqual(one.show(b, "z"), 1)
            one.call(a, "run")
            with self.assertRaises(NoWord):
                one.call(b, "w")
            # It wasn't shared, not early, and not in a space of its own.
            self.assertEqual(one.told(), [(0, None)])
            one.bring("b", shared=True)
            one.call(a, "run")
            self.assertEqual(one.told(), [(0, None), (1, 1)])
        self.assertEqual(plant.state(), hall.state())
        self.alike(hall, plant)


class Holds(Case):
    def test_holds(self):
        plant = Plant(SHELF, "a")
        one, other = plant.bring("c"), plant.bring("b", apart=True)
        self.assertEqual([(hold.number, hold.name) for hold in (one, other)], [(2, "c"), (4, "b")])
        self.assertIsInstance(one, Hold)
        self.assertEqual(plant.hold(2), one)
        self.assertNotEqual(one, other)

    def test_of_another_plant_or_hall_or_none(self):
        plant, other, hall = Plant(SHELF, "a"), Plant(SHELF, "a"), Hall(SHELF, "a")
        holds = [one.bring("a") for one in (plant, other, hall)]
        self.assertEqual([hold == holds[0] for hold in holds], [True, False, False])
        for one in (plant, other, hall):
            for thing in [hold for hold in holds if hold != one.hold(0)] + THINGS:
                for call in (one.drop, lambda hold, one=one: one.look(hold, "x"), lambda hold, one=one: one.call(hold, "run"),
                             lambda hold, one=one: one.show(hold, "x")):
                    with self.assertRaises(Closed):
                        call(thing)
        # 0 itself is held.
        for thing in [1, 2, -1, *[thing for thing in THINGS if thing != 0 or thing is False]]:
            with self.assertRaises(Closed):
                plant.hold(thing)

    def test_told_is_the_askers_own(self):
        plant = Plant(SHELF, "a")
        for told in (plant.told(), plant.images()):
            told.append("more")
            told[0] = None
        self.assertEqual(plant.told(), [(1, 2), (0, 1)])
        self.assertEqual([row[2] for row in plant.images()], [0, 1])


class Machine(Case):
    def test_each_row(self):
        told = self.both(shelf_of(
            "lib a | needs b | use x - cell | use y - may | use n - may | deed run - c ; tell -9 ; show 0 ; put 0 4 ; add 0 -5"
            " ; show 0 ; call 1 ; call 2 ; ask b x | deed more - c ; bring c ; share d ; drop c ; drop c ; drop b ; bring q"
            " ; ask b w ; ask q x | deed skips - c ; skip 0 ; tell 1 ; put 0 0 ; skip 0 ; tell 2 ; tell 3",
            "lib b | cell x - c 7 | deed y - c ; tell 8 | deed w - cf ; tell 6", "lib c | first ; tell 10 | last ; tell -10",
            "lib d | needs c | first ; tell 11 | last ; tell -11"), "a",
            [bring("a"), ("call", 0, "run", ""), ("call", 0, "more", ""), ("call", 0, "skips", ""), ("end",)])
        self.assertEqual([given[1] for given in told[2:]], [
            [(0, -9), (0, 7), (0, -1), (1, 8), (0, None), (0, -1)],
            [(2, 10), (3, 11), (0, None), (0, None), (0, None), (1, 6), (0, None)],
            [(0, 1), (0, 3)], [(3, -11), (2, -10)]])

    def test_numbers_of_many_figures(self):
        big = 10 ** 30 - 1
        told = self.both(shelf_of(f"lib a | use x - cell | cell x - c {big} | deed run - c ; add 0 {big} ; show 0 ; tell -{big}"),
                         "a", [bring("a"), ("call", 0, "run", ""), ("show", 0, "x", "")])
        self.assertEqual(told[2:], [(("ok", None), [(0, 2 * big), (0, -big)]), (("ok", 2 * big), [])])

    def test_numbers_like_addresses_and_rows_of_ten(self):
        # Cells that bear any numbers are not taken for rows, stubs or slots.
        texts = ["lib a | use x - cell | use y - may" + "".join([f" | cell {word} - c {worth}" for word, worth in
                 (("x", 10), ("w", 0), ("v", 5), ("u", 11))]) + " | deed y - c ; put 0 3 ; show 0 ; tell 10 ; tell 0"
                 " | deed run - c ; call 1 ; put 0 10 ; call 1 ; tell 11"]
        rows = [(0, 3), (0, 10), (0, 0)]
        told = self.both(shelf_of(*texts), "a", [bring("a"), ("call", 0, "run", "")])
        self.assertEqual(told[2][1], [*rows, *rows, (0, 11)])

    def test_skips_ahead_of_the_end_of_a_deed(self):
        # A skip goes on behind no 0: neither the caller's rows nor the next deed's are touched.
        told = self.both(shelf_of(
            "lib a | use x - cell | use y - may | cell x - c 0 | deed y - c ; tell 1 ; skip 0 | deed next - c ; tell 2"
            " | deed run - c ; call 1 ; skip 0 ; skip 0 ; tell 3 ; skip 0 | first ; skip 0 | last ; tell 4 ; skip 0"), "a",
            [bring("a"), ("call", 0, "run", ""), ("call", 0, "y", ""), ("end",)])
        self.assertEqual([given[1] for given in told], [[], [], [(0, 1), (0, 3)], [(0, 1)], [(0, 4)]])

    def test_cut(self):
        eight = " ; ".join(["ask a two"] * 8)
        told = self.both(shelf_of(f"lib a | use y - may | deed run - c ; {eight} | deed two - c ; " + " ; ".join(["tell 2"] * 8)
                                  + " | deed y - c ; call 0"), "a",
                         [bring("a"), ("call", 0, "run", ""), ("call", 0, "two", ""), ("call", 0, "y", "")])
        self.assertEqual([given[1] for given in told[2:]], [[(0, 2)] * 53 + [(0, "cut")], [(0, 2)] * 8, [(0, None)]])

    def test_cut_ahead_of_a_row_not_of_an_end(self):
        # Sixty rows and an end are done whole; a row that a skip passes doesn't count.
        def texts(many, last):
            rows = " ; ".join(["ask a more"] * 7 + [last])
            return f"lib a | use x - cell | cell x - c 0 | deed run - c ; {rows} | deed more - c ; " + " ; ".join(["tell 1"] * many)
        told = self.both(shelf_of(texts(7, "tell 2")), "a", [bring("a"), ("call", 0, "run", "")])
        self.assertEqual(told[2][1], [(0, 1)] * 49 + [(0, 2)])
        told = self.both(shelf_of(texts(8, "tell 2")), "a", [bring("a"), ("call", 0, "run", "")])
        self.assertEqual(told[2][1], [(0, 1)] * 53 + [(0, "cut")])

    def test_exactly_sixty(self):
        # Six asks of eight rows are 54; with six more all sixty are done, and the skipped one is free.
        for last, rows in (("tell 3 ; tell 4", [(0, 3), (0, 4)]), ("skip 0 ; tell 9", []), ("tell 3", [(0, 3)])):
            text = ("lib a | use x - cell | cell x - c 0 | deed run - c ; ask a more ; ask a more ; ask a more ; ask a more ; ask a more"
                    " ; ask a more ; ask a rest | deed more - c ; " + " ; ".join(["tell 1"] * 8)
                    + " | deed rest - c ; tell 2 ; tell 2 ; tell 2 ; " + last)
            told = self.both(shelf_of(text), "a", [bring("a"), ("call", 0, "run", "")])
            self.assertEqual(told[2][1], [(0, 1)] * 48 + [(0, 2)] * 3 + rows)

    def test_twenty_deeds(self):
        told = self.both(shelf_of("lib a | use y - may | use n - may | deed y - c ; call 0 ; tell 1",
                                  "lib b | deed go - c ; ask b go ; bring c", "lib c | cell k - c 4"), "a",
                         [bring("a"), ("call", 0, "y", ""), bring("b"), ("call", 1, "go", "")])
        self.assertEqual(told[2][1], [(0, None)] + [(0, 1)] * 20)
        self.assertEqual(told[4][1], [(1, None)] * 2)

    def test_stubs(self):
        # A stub that finds nothing tells None and stays; one that finds a meaning is left for good.
        shelf = shelf_of("lib a | use y - may | use y k must | deed run - c ; call 0 ; call 1 ; call 0", "lib b | deed y - c ; tell 1",
                         "lib c | deed y k - ; tell 2 | deed y - c ; tell 3")
        calls = [bring("a"), ("call", 0, "run", ""), bring("c", shared=True), ("call", 0, "run", ""), bring("b", shared=True),
                 ("drop", 1), ("call", 0, "run", "")]
        told = self.both(shelf, "a", calls)
        self.assertEqual([told[at][1] for at in (2, 4, 7)], [[(0, None)] * 3, [(1, 3), (1, 2), (1, 3)], [(1, 3), (1, 2), (1, 3)]])

    def test_firsts_and_lasts_call_and_bring(self):
        self.both(shelf_of("lib a | use y - may | first ; call 0 ; share b ; call 0 ; bring c ; drop c | last ; call 0 ; bring c",
                           "lib b | needs c | use y - may | deed y - c ; tell 1 ; ask c y | first ; call 0 | last ; call 0 ; drop b",
                           "lib c stays | use x - cell | cell x - c 0 | deed y - c ; add 0 1 ; show 0 | last ; show 0 ; ask b y"),
                  "a", [bring("c"), bring("b", apart=True), ("drop", 1), ("drop", 3), ("end",)])

    def test_spaces(self):
        shelf = shelf_of("lib a | use y - may | deed run - c ; call 0", "lib b | deed y - c ; tell 1", "lib c | needs b a")
        calls = [bring("a"), bring("a", apart=True), bring("b", shared=True, apart=True), bring("c", apart=True),
                 ("call", 0, "run", ""), ("call", 1, "run", ""), bring("b", shared=True), ("call", 0, "run", ""),
                 ("call", 1, "run", ""), ("call", 3, "run", "")]
        told = self.both(shelf, "a", calls)
        self.assertEqual([given[1] for given in told[5:]], [[(0, None)], [(1, None)], [], [(6, 1)], [(1, None)], [(5, None)]])

    def test_shelved_libraries(self):
        new = shelf_of("lib b | needs d | use x - cell | deed y - c ; show 0", "lib d | cell x - c 9")
        calls = [bring("b"), ("shelve", new[1]), ("shelve", new[0]), bring("b"), bring("b", apart=True), ("call", 1, "y", ""),
                 ("call", 2, "y", ""), ("drop", 1), ("drop", 1), bring("b"), ("call", 4, "y", "")]
        told = self.both(shelf_of("lib a", "lib b | deed y - c ; tell 1"), "a", calls)
        self.assertEqual([told[at][1] for at in (6, 7, 11)], [[(1, 1)], [(2, 9)], [(4, 9)]])


class Images(Case):
    def test_by_rising_numbers_where_they_fit_first(self):
        # Lengths: a 6, b 12, c 7, d 9.
        shelf = shelf_of("lib a", "lib b | needs c | first ; tell 1 ; tell 2", "lib c | cell x - c 1",
                         "lib d | first ; tell 3")
        plant = Plant(shelf, "a", pad=4)
        self.assertEqual(plant.images(), [(4, 6, 0)])
        b = plant.bring("b")
        self.assertEqual(plant.images(), [(4, 6, 0), (10, 12, 1), (22, 7, 2)])
        d = plant.bring("d")
        self.assertEqual(plant.images(), [(4, 6, 0), (10, 12, 1), (22, 7, 2), (29, 9, 3)])
        # What goes is given back, what stands keeps its base.
        plant.drop(b)
        self.assertEqual(plant.images(), [(4, 6, 0), (29, 9, 3)])
        plant.bring("d", apart=True)
        c = plant.bring("c")
        self.assertEqual(plant.images(), [(4, 6, 0), (10, 9, 4), (19, 7, 5), (29, 9, 3)])
        # b doesn't fit ahead of d; its need c stands.
        plant.bring("b")
        self.assertEqual(plant.images(), [(4, 6, 0), (10, 9, 4), (19, 7, 5), (29, 9, 3), (38, 12, 6)])
        plant.drop(c)
        plant.drop(d)
        self.assertEqual(plant.images(), [(4, 6, 0), (10, 9, 4), (19, 7, 5), (38, 12, 6)])
        plant.bring("b", apart=True)
        self.assertEqual(plant.images(), [(4, 6, 0), (10, 9, 4), (19, 7, 5), (26, 12, 7), (38, 12, 6), (50, 7, 8)])

    def test_what_goes_leaves_vacant_addresses(self):
        plant = Plant(SHELF, "a", pad=3)
        hold = plant.bring("c")
        lain = [address for base, length, number in plant.images() if number > 1 for address in range(base, base + length)]
        stays = numbers_of(plant)
        self.assertEqual(len([plant.number_at(address) for address in lain]), len(stays[2]) + len(stays[3]))
        plant.drop(hold)
        for address in [0, 1, 2, *lain]:
            with self.assertRaises(Vacant) as refusal:
                plant.number_at(address)
            self.assertEqual(refusal.exception.address, address)
        self.assertEqual(numbers_of(plant), {number: stays[number] for number in (0, 1)})

    def test_refused_ones_take_nothing(self):
        shelf = shelf_of("lib a", "lib strict | needs b | use none - cell", "lib b | cell x - c 1")
        plant = Plant(shelf, "a", pad=1)
        for name in ("strict", "q"):
            with self.assertRaises((Unmet, NoLibrary)):
                plant.bring(name)
        self.assertEqual(plant.images(), [(1, 6, 0)])
        plant.bring("b")
        self.assertEqual(plant.images(), [(1, 6, 0), (7, 7, 1)])

    def test_as_a_room_has_them(self):
        compared = 0
        for seed in range(80):
            chance = random.Random(f"as a room {seed}")
            shelf, main, more = making_by_chance(chance)
            pad = chance.choice(PADS)
            made = answer(Plant, shelf, main, pad=pad, **more)
            if made[0] == "no":
                continue
            plant, room, bases = made[1], Room(), {}
            if pad:
                room.take(pad)
            coming = 0
            for call in [None, *history_by_chance(chance)]:
                if call is not None:
                    answer(done, plant, call)
                stands = {number: length for _, length, number in plant.images()}
                came = list(range(coming, plant.state()[8][0]))
                # How long it was isn't told any longer of what came and went by one call.
                if set(came) - set(stands):
                    break
                # All that comes by a call comes ahead of all that goes by it.
                for number in came:
                    bases[number] = room.take(stands[number])
                for number in sorted(set(bases) - set(stands)):
                    room.give_back(bases.pop(number))
                self.assertEqual(plant.images(), sorted([(bases[number], stands[number], number) for number in stands]))
                coming += len(came)
                compared += bool(came)
        self.assertGreater(compared, 80)

    def test_number_at_changes_nothing(self):
        plant = Plant(SHELF, "a", pad=7)
        state, images, numbers = plant.state(), plant.images(), numbers_of(plant)
        for address in range(-5, 200):
            if not any([base <= address < base + length for base, length, _ in images]):
                with self.assertRaises(Vacant) as refusal:
                    plant.number_at(address)
                self.assertEqual(refusal.exception.address, address)
        self.assertEqual((plant.state(), plant.images(), numbers_of(plant)), (state, images, numbers))

    def test_slots_of_unbound_uses_bear_stubs(self):
        shelf = shelf_of("lib a | use y - may | use x - cell | use z - may | cell x - c 3 | deed run - c ; call 0", "lib b | deed y - c")
        plant = Plant(shelf, "a", pad=100)
        self.assertEqual([plant.number_at(100 + at) for at in range(10)], [104, 103, 107, 3, 10, 0, 0, 10, 2, 0])
        plant.bring("b", shared=True)
        plant.call(plant.bring("a"), "run")
        base = plant.images()[1][0]
        self.assertEqual([plant.number_at(100 + at) for at in range(10)], [base, 103, 107, 3, 10, 0, 0, 10, 2, 0])

    def test_pads(self):
        for pad in (0, 1, 1999, 2000):
            plant = Plant(needing(a="b", b=""), "a", pad=pad)
            self.assertEqual(plant.images(), [(pad, 6, 0), (pad + 6, 6, 1)])
            plant.end()
            self.assertEqual(plant.images(), [])
            for address in {0, pad - 1, pad, pad + 6}:
                with self.assertRaises(Vacant):
                    plant.number_at(address)


class ByChance(Case):
    def test_alike_whatever_the_pad(self):
        made = 0
        for seed in range(150):
            chance = random.Random(f"plant {seed}")
            shelf, main, more = making_by_chance(chance)
            calls = history_by_chance(chance)
            with self.subTest(seed=seed):
                answers = self.both(shelf, main, calls, pads=[chance.choice(PADS)], early=chance.random() < 0.3, **more)
                made += answers[0][0][0] == "ok"
        self.assertGreater(made, 40)


if __name__ == "__main__":
    unittest.main()
