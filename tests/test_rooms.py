"""Rooms: stretches of addresses, taken and given back (points 2 and 29)."""

import random
import unittest

from latehall.errors import NotTaken
from latehall.rooms import Room


class Case(unittest.TestCase):
    def room(self, *lengths):
        room = Room()
        for length in lengths:
            room.take(length)
        return room

    def stands(self, room, taken, height):
        self.assertEqual((room.taken(), room.height()), (taken, height))

    def refused(self, room, *addresses):
        for at in addresses:
            before = (room.taken(), room.height())
            with self.assertRaises(NotTaken) as refusal:
                room.give_back(at)
            self.assertEqual(refusal.exception.at, at)
            self.stands(room, *before)


class Take(Case):
    def test_empty(self):
        self.stands(Room(), [], 0)

    def test_one_behind_another(self):
        room = Room()
        self.assertEqual([room.take(length) for length in (3, 1, 2000, 5)], [0, 3, 4, 2004])
        self.stands(room, [(0, 3), (3, 1), (4, 2000), (2004, 5)], 2009)

    def test_gaps_that_fit_and_that_are_too_short(self):
        room = self.room(5, 3, 5, 4, 5)
        room.give_back(5)
        room.give_back(13)
        self.assertEqual(room.take(4), 13)
        self.assertEqual(room.take(4), 22)
        self.assertEqual(room.take(2), 5)
        self.assertEqual(room.take(2), 26)
        self.assertEqual(room.take(1), 7)
        self.assertEqual(room.take(1), 28)
        self.stands(room, [(0, 5), (5, 2), (7, 1), (8, 5), (13, 4), (17, 5), (22, 4), (26, 2), (28, 1)], 29)

    def test_a_gap_ahead_of_all(self):
        room = self.room(4, 4)
        room.give_back(0)
        self.assertEqual(room.take(5), 8)
        self.assertEqual(room.take(3), 0)
        self.assertEqual(room.take(1), 3)

    def test_gaps_side_by_side_are_one(self):
        room = self.room(1, 2000, 1, 2000, 1)
        room.give_back(1)
        room.give_back(2002)
        self.assertEqual(room.take(2000), 1)
        room.give_back(2001)
        self.assertEqual(room.take(2000), 2001)
        self.assertEqual(room.take(1), 4001)
        room.give_back(0)
        room.give_back(1)
        self.assertEqual([room.take(2000), room.take(1), room.take(1)], [0, 2000, 4003])

    def test_two_rooms_apart(self):
        one, other = self.room(5), self.room(7, 8)
        one.take(9)
        other.give_back(7)
        self.stands(one, [(0, 5), (5, 9)], 14)
        self.stands(other, [(0, 7)], 7)


class GiveBack(Case):
    def test_first_last_and_within(self):
        room = self.room(2, 3, 4, 5)
        self.assertIsNone(room.give_back(2))
        self.stands(room, [(0, 2), (5, 4), (9, 5)], 14)
        room.give_back(9)
        self.stands(room, [(0, 2), (5, 4)], 9)
        room.give_back(0)
        self.stands(room, [(5, 4)], 9)
        room.give_back(5)
        self.stands(room, [], 0)
        self.assertEqual(room.take(1), 0)

    def test_refused(self):
        room = self.room(2, 3, 4)
        room.give_back(2)
        # Given back before, within a stretch, the end of all, far behind, below 0.
        self.refused(room, 2, 1, 3, 4, 6, 8, 9, 10, 10 ** 29, -1, -2, -10 ** 29)
        self.refused(Room(), 0, 1, -1)

    def test_given_back_twice(self):
        room = self.room(2)
        room.give_back(0)
        self.refused(room, 0)
        self.assertEqual(room.take(3), 0)
        room.give_back(0)
        self.refused(room, 0)


class Told(Case):
    def test_the_askers_own(self):
        room = self.room(2, 3)
        told = room.taken()
        told.append((9, 9))
        told[0] = None
        self.stands(room, [(0, 2), (2, 3)], 5)

    def test_by_chance(self):
        for seed in range(60):
            chance = random.Random(f"room {seed}")
            room, held = Room(), {}
            for _ in range(80):
                if held and chance.random() < 0.45:
                    at = chance.choice(sorted(held))
                    room.give_back(at)
                    del held[at]
                else:
                    length = chance.choice([1, 2, 3, 5, 9, 2000])
                    busy = {one for start, many in held.items() for one in range(start, start + many)}
                    ends = [0] + [start + many for start, many in held.items()]
                    at = min(end for end in ends if not busy & set(range(end, end + length)))
                    self.assertEqual(room.take(length), at)
                    held[at] = length
                self.stands(room, sorted(held.items()), max([0] + [start + many for start, many in held.items()]))
                self.refused(room, *[at for at in (chance.randint(-3, 60), chance.randint(0, 9000)) if at not in held])


if __name__ == "__main__":
    unittest.main()
