"""The promise over the whole (point 3): a hall, the plain reader and a plant answer alike."""

import copy
import random
import unittest

from latehall.halls import Hall
from latehall.history import played
from latehall.late import parted
from latehall.plain import read, state_behind
from latehall.plants import Plant
from players import answer, done, played_by
from shelves_by_chance import history_by_chance, making_by_chance


class Alike(unittest.TestCase):
    def test_hall_reader_and_plants(self):
        kinds = {}
        for seed in range(300):
            chance = random.Random(f"promise {seed}")
            shelf, main, more = making_by_chance(chance)
            more["early"] = chance.random() < 0.3
            calls = history_by_chance(chance, 40)
            before = copy.deepcopy(calls)
            with self.subTest(seed=seed):
                told = played(shelf, main, calls, **more)
                self.assertEqual(read(shelf, main, calls, **more), told)
                self.assertEqual(played_by(Hall, shelf, main, calls, **more), told)
                for pad in (0, chance.randint(1, 2000)):
                    self.assertEqual(played_by(Plant, shelf, main, calls, pad=pad, **more), told)
                self.assertEqual(calls, before)
            for answered, rows in told:
                for what in [answered[0] if answered[0] == "ok" else answered[1], *[row[1] for row in rows]]:
                    kind = "number" if isinstance(what, int) else what
                    kinds[kind] = kinds.get(kind, 0) + 1
        for kind in ("ok", "number", None, "cut", "NoLibrary", "Unmet", "Closed", "Ended", "NoWord"):
            self.assertGreater(kinds.get(kind, 0), 20, kinds)

    def test_late_and_early_tell_alike_up_to_where_they_part(self):
        parts = 0
        for seed in range(200):
            chance = random.Random(f"late and early {seed}")
            shelf, main, more = making_by_chance(chance)
            calls = history_by_chance(chance)
            told = parted(shelf, main, calls, **more)
            many = len(calls) + 1 if told is None else told[1] + 1
            late, early = [played(shelf, main, calls, early=truth, **more)[:many] for truth in (False, True)]
            with self.subTest(seed=seed):
                self.assertEqual(late, early)
            parts += told is not None
        self.assertGreater(parts, 10)


class Kept(unittest.TestCase):
    def test_each_first_once_and_each_last_once_in_the_reverse_order(self):
        rings = 0
        for seed in range(120):
            chance = random.Random(f"first and last {seed}")
            shelf, main, more = making_by_chance(chance)
            # Each library tells 1 by its first and -1 by its last, and does nothing else.
            shelf = tuple([(*library[:2], (), (), (("tell", 1),), (("tell", -1),), library[6]) for library in shelf])
            made = answer(Hall, shelf, main, **more)
            if made[0] == "no":
                continue
            hall, begun, calls = made[1], {}, [None, *history_by_chance(chance), ("end",)]
            for call in calls:
                if call is not None and call[0] == "shelve":
                    continue
                before = len(hall.told()) if call is not None else 0
                if call is not None:
                    answer(done, hall, call)
                rows = hall.told()[before:]
                firsts = [number for number, what in rows if what == 1]
                lasts = [number for number, what in rows if what == -1]
                for number in firsts:
                    # All that it needs is begun ahead of it, or with it in a ring.
                    self.assertNotIn(number, begun)
                    begun[number] = len(begun)
                self.assertEqual(lasts, sorted(lasts, key=lambda number: -begun[number]))
                for number in lasts:
                    begun[number] = -1
                stands = [number for number, _, _ in hall.stands()]
                self.assertEqual(sorted([number for number in begun if begun[number] >= 0]), stands)
                for number in stands:
                    for need in hall.walk(number):
                        is_ring = number in hall.walk(need)
                        rings += is_ring and need != number
                        self.assertTrue(is_ring or begun[need] < begun[number])
            self.assertEqual(len(hall), 0)
            self.assertEqual(set(begun.values()), {-1})
        self.assertGreater(rings, 10)

    def test_nothing_gone_is_told_of(self):
        for seed in range(100):
            chance = random.Random(f"gone {seed}")
            shelf, main, more = making_by_chance(chance)
            calls = history_by_chance(chance)
            told = read(shelf, main, calls, **more)
            for at, (answered, rows) in enumerate(told):
                if told[0][0][0] == "no":
                    break
                # What tells in a call stood ahead of it, or came by it.
                ahead = state_behind(shelf, main, calls[:at - 1], **more) if at else (None,) * 8 + ((0, 1),)
                stood = [row[0] for row in ahead[5]] if at else []
                for number, _ in rows:
                    self.assertTrue(number in stood or number >= ahead[8][0])


if __name__ == "__main__":
    unittest.main()
