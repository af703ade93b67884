"""Nets: what is reached, ways, cuts (points 2 and 23)."""

import copy
import itertools
import random
import unittest

from latehall.nets import is_cut, is_way, reached, way_to
from samples import THINGS, nested

# 0 leads to 1 and 2, these to 3; 5 and 6 are a ring that leads to 3, 4 stands alone; 7 is a root.
NET = (8, [0, 7], [(0, 1), (0, 2), (1, 3), (2, 3), (5, 6), (6, 5), (5, 3), (7, 7)])
BARE = (0, [], [])


def all_reached(net):
    """What is reached, by going over the pairs till nothing more comes."""
    told = set(net[1])
    while any(one in told and other not in told for one, other in net[2]):
        told |= {other for one, other in net[2] if one in told}
    return sorted(told)


def net_by_chance(chance, most):
    many = chance.randint(0, most)
    roots = sorted(chance.sample(range(many), chance.randint(0, min(2, many))))
    leads = [(chance.randrange(many), chance.randrange(many)) for _ in range(chance.randint(0, 2 * many))]
    return (many, roots, leads)


class Reached(unittest.TestCase):
    def told(self, net, numbers):
        ahead = copy.deepcopy(net)
        self.assertEqual(reached(net), numbers)
        self.assertEqual(net, ahead)

    def test_plain(self):
        self.told(NET, [0, 1, 2, 3, 7])

    def test_rising_whatever_the_order_of_the_pairs(self):
        self.told((9, [4], [(4, 8), (8, 2), (4, 6), (2, 0)]), [0, 2, 4, 6, 8])

    def test_no_roots(self):
        self.told((3, [], [(0, 1), (1, 0), (2, 2)]), [])

    def test_no_numbers(self):
        self.told(BARE, [])

    def test_no_pairs(self):
        self.told((3, [0, 2], []), [0, 2])

    def test_pairs_told_twice(self):
        self.told((3, [0], [(0, 1), (0, 1), (1, 0), (0, 1)]), [0, 1])

    def test_a_number_that_leads_to_itself(self):
        self.told((3, [0], [(0, 0), (1, 1), (1, 2), (1, 1)]), [0])

    def test_many(self):
        self.told((999, [0], [(at, at + 1) for at in range(998)]), list(range(999)))
        self.assertEqual(way_to((999, [0], [(at, at + 1) for at in range(998)]), 998), list(range(999)))

    def test_what_is_told_is_the_askers(self):
        reached(NET).append(9)
        way_to(NET, 0).append(9)
        way_to(NET, 3).clear()
        self.told(NET, [0, 1, 2, 3, 7])
        self.assertEqual(way_to(NET, 0), [0])


class Ways(unittest.TestCase):
    def way(self, net, number, many):
        ahead = copy.deepcopy(net)
        told = way_to(net, number)
        self.assertEqual(len(told), many)
        self.assertIs(type(told), list)
        self.assertIn(told[0], net[1])
        self.assertEqual(told[-1], number)
        for step in zip(told, told[1:]):
            self.assertIn(step, net[2])
        self.assertIs(is_way(net, number, told), True)
        self.assertEqual(net, ahead)

    def test_a_shortest_one(self):
        self.way(NET, 0, 1)
        self.way(NET, 7, 1)
        self.way(NET, 1, 2)
        self.way(NET, 3, 3)
        self.way((5, [0], [(0, 1), (1, 2), (2, 3), (3, 4), (0, 3)]), 4, 3)
        self.way((5, [0, 3], [(0, 1), (1, 2), (2, 4), (3, 4)]), 4, 2)
        self.way((5, [0, 3], [(0, 1), (0, 3)]), 3, 1)

    def test_none_where_it_is_not_reached(self):
        for number in (4, 5, 6, 8, 999, -1):
            self.assertIsNone(way_to(NET, number))
        self.assertIsNone(way_to(BARE, 0))
        self.assertIsNone(way_to((2, [], [(0, 1)]), 1))

    def test_is_way(self):
        for thing in ([0, 1, 3], [0, 2, 3]):
            self.assertIs(is_way(NET, 3, thing), True)
        self.assertIs(is_way(NET, 7, [7, 7, 7]), True)
        self.assertIs(is_way((3, [0], [(0, 1), (1, 0), (1, 2)]), 2, [0, 1, 0, 1, 0, 1, 2]), True)
        self.assertIs(is_way((3, [0, 1], [(0, 1), (1, 2)]), 2, [1, 2]), True)
        self.assertIs(is_way((3, [0, 1], [(0, 1), (1, 2)]), 2, [0, 1, 2]), True)

    def test_is_no_way(self):
        for thing in ([], [3], [0, 3], [1, 3], [0, 1], [0, 1, 3, 3], [0, 1, 2, 3], [3, 1, 0], [5, 3], [0, 0, 1, 3],
                      [0, 1, 3, 4], [0, 1, "3"], (0, 1, 3), [False, True, 3], [0, True, 3], [False, 1, 3],
                      [0, [1], 3], [[0, 1, 3]], [0, (1,), 3], [0, None, 3], [0, {}, 3], {0: 1, 1: 3}, "013",
                      [(0, 1), (1, 3)], [0, 10 ** 29, 3], [0, -1, 3]):
            self.assertIs(is_way(NET, 3, thing), False, thing)
        self.assertIs(is_way(NET, 4, [4]), False)
        self.assertIs(is_way(NET, 0, [False]), False)
        self.assertIs(is_way((2, [1], []), 1, [True]), False)

    def test_of_things(self):
        for thing in THINGS + [nested(20), [0] * 9999, [[0]] * 4000, [nested(19), 1, 3]]:
            for number in (0, 3, 4):
                self.assertIs(is_way(NET, number, thing), False, thing)
            self.assertIs(is_way(BARE, 0, thing), False, thing)

    def test_by_chance(self):
        chance = random.Random(15)
        for _ in range(200):
            net = net_by_chance(chance, 7)
            told = all_reached(net)
            self.assertEqual(reached(net), told)
            for number in range(net[0]):
                ways = [list(way) for many in range(1, 5) for way in itertools.product(told, repeat=many)
                        if way[0] in net[1] and way[-1] == number and all(step in net[2] for step in zip(way, way[1:]))]
                found = way_to(net, number)
                if number not in told:
                    self.assertIsNone(found)
                elif ways:
                    self.way(net, number, len(ways[0]))
                else:
                    self.assertGreater(len(found), 4)
                for way in ways[:20]:
                    self.assertIs(is_way(net, number, way), True)


class Cuts(unittest.TestCase):
    def cut(self, net, thing, told=True):
        ahead = copy.deepcopy((net, thing))
        self.assertIs(is_cut(net, thing), told, thing)
        self.assertEqual((net, thing), ahead)

    def test_all_that_is_not_reached(self):
        self.cut(NET, [4, 5, 6])
        self.cut((3, [], [(0, 1)]), [0, 1, 2])
        self.cut((2, [0, 1], []), [])

    def test_each_within_it_into_which_none_leads(self):
        for thing in ([], [4], [5, 6]):
            self.cut(NET, thing)
        for thing in ([5], [6], [4, 5], [4, 6]):
            self.cut(NET, thing, False)

    def test_none_that_is_reached(self):
        for thing in ([0], [7], [3], [1], [1, 3], [1, 2, 3], [3, 4, 5, 6], [1, 2, 3, 4, 5, 6], [4, 5, 6, 7],
                      list(range(8))):
            self.cut(NET, thing, False)

    def test_a_number_that_leads_to_itself(self):
        self.cut((2, [0], [(1, 1), (1, 1), (1, 0)]), [1])
        self.cut((2, [0], [(0, 0), (0, 1)]), [1], False)

    def test_a_root_into_which_none_leads(self):
        self.cut((3, [1], []), [0, 1, 2], False)
        self.cut((3, [1], []), [1], False)
        self.cut((3, [1], []), [0, 2])

    def test_out_of_bounds(self):
        self.cut(NET, [8], False)
        self.cut(NET, [4, 8], False)
        self.cut(NET, [-1, 4], False)
        self.cut(NET, [4, 10 ** 29], False)
        self.cut(BARE, [0], False)

    def test_rising_and_unlike(self):
        for thing in ([6, 5], [4, 4], [4, 5, 5, 6], [5, 6, 4], [6, 5, 4]):
            self.cut(NET, thing, False)

    def test_no_numbers(self):
        self.cut(BARE, [])

    def test_of_things(self):
        for thing in THINGS + [nested(20), (4,), (), ["4"], [4, "5"], [None], [[4]], [(4,)], {4: 4}, "4",
                               [False], [True], [False, True], [4, True], [4] * 9999, list(range(9999))]:
            if thing != []:
                self.cut(NET, thing, False)
                self.cut((2, [], []), thing, False)

    def test_by_chance(self):
        chance = random.Random(16)
        for _ in range(150):
            net = net_by_chance(chance, 6)
            told = all_reached(net)
            self.cut(net, [number for number in range(net[0]) if number not in told])
            for many in range(net[0] + 1):
                for thing in itertools.combinations(range(net[0]), many):
                    within = not any(root in thing for root in net[1])
                    within = within and not any(other in thing and one not in thing for one, other in net[2])
                    self.cut(net, list(thing), within)
                    self.assertTrue(not within or not set(thing) & set(told))


if __name__ == "__main__":
    unittest.main()
