"""The numbers of words, tables of libraries, what is sought in them (points 2 and 12)."""

import copy
import itertools
import random
import unittest

from latehall.meanings import meaning
from latehall.tables import is_sought, is_table, sought, table_of, word_number
from samples import LARGE, SMALL, THINGS, nested
from test_meanings import DEED, cell_use, deed_use, give, giving


def plain_number(word):
    """The number of a word, by powers of 33."""
    places = ["abcdefghijklmnopqrstuvwxyz".index(letter) + 1 for letter in word]
    return sum(place * 33 ** power for power, place in enumerate(reversed(places))) % 4294967296


class Numbers(unittest.TestCase):
    def test_told_ones(self):
        self.assertEqual(word_number("a"), 1)
        self.assertEqual(word_number("z"), 26)
        self.assertEqual(word_number("aa"), 34)
        self.assertEqual(word_number("az"), 59)
        self.assertEqual(word_number("ba"), 67)
        self.assertEqual(word_number("abc"), 33 * 33 + 2 * 33 + 3)

    def test_beyond_2_to_the_32(self):
        # 33 to the 6 is below 2 to the 32 and 33 to the 7 isn't.
        self.assertEqual(word_number("zzzzzzzz"), sum(26 * 33 ** power for power in range(8)) - 266 * 2 ** 32)
        self.assertEqual(word_number("aaaaaaa"), sum(33 ** power for power in range(7)))
        for word in ("zzzzzzz", "aaaaaaaa", "abcdefgh", "qwertyui"):
            self.assertEqual(word_number(word), plain_number(word))
            self.assertLess(word_number(word), 2 ** 32)

    def test_each_length(self):
        chance = random.Random(13)
        for many in range(1, 9):
            for _ in range(20):
                word = "".join([chance.choice("abcdefghijklmnopqrstuvwxyz") for _ in range(many)])
                self.assertEqual(word_number(word), plain_number(word))


class Tables(unittest.TestCase):
    def test_without_gives(self):
        self.assertEqual(table_of(SMALL), (4, 32, ((), (), (), ()), 0))
        self.assertEqual(table_of(SMALL, buckets=1, width=1), (1, 1, ((),), 0))
        self.assertEqual(table_of(SMALL, buckets=16, width=64), (16, 64, ((),) * 16, 0))

    def test_one_give(self):
        # The number of aa is 34: 2 by 4; its bits are 2 and 34 // 32, 1.
        self.assertEqual(table_of(giving(give("aa"))), (4, 32, ((), (), (0,), ()), 1 << 2 | 1 << 1))
        self.assertEqual(table_of(giving(give("aa")), buckets=3), (3, 32, ((), (0,), ()), 6))
        self.assertEqual(table_of(giving(give("aa")), width=64), (4, 64, ((), (), (0,), ()), 1 << 34 | 1 << 1))
        self.assertEqual(table_of(giving(give("aa")), width=1), (4, 1, ((), (), (0,), ()), 1))

    def test_the_two_bits_are_one(self):
        # 33: one left by 32, and a thirty-second of it is one.
        words = ["".join(letters) for letters in itertools.product("abcdefgh", repeat=3)]
        both = [word for word in words if plain_number(word) // 32 % 32 == plain_number(word) % 32]
        self.assertTrue(both)
        for word in both:
            library = giving(give(word))
            self.assertEqual(table_of(library)[3], 1 << plain_number(word) % 32)
            self.assertEqual(sought(library, table_of(library), cell_use(word)), ("give", 0))
            self.assertEqual(sought(SMALL, table_of(SMALL), cell_use(word)), ("bit", plain_number(word) % 32))

    def test_two_gives_of_one_word_and_chains_rise(self):
        library = giving(give("b"), give("a", "v"), give("f"), give("a", "w"), give("e"))
        # b is 2, a 1, f 6, e 5.
        self.assertEqual(table_of(library)[2], ((), (1, 3, 4), (0, 2), ()))
        self.assertEqual(table_of(library, buckets=1)[2], ((0, 1, 2, 3, 4),))
        self.assertEqual(table_of(library, buckets=5)[2], ((4,), (1, 2, 3), (0,), (), ()))
        self.assertEqual(table_of(library)[3], 1 << 2 | 1 << 1 | 1 << 6 | 1 << 5 | 1 << 0)

    def test_all_buckets_and_widths(self):
        numbers = [plain_number(given[0]) for given in LARGE[2]]
        for buckets, width in itertools.product(range(1, 17), range(1, 65)):
            told = table_of(LARGE, buckets=buckets, width=width)
            self.assertEqual(told[:2], (buckets, width))
            self.assertEqual(told[2], tuple([
                tuple([at for at, number in enumerate(numbers) if number % buckets == place])
                for place in range(buckets)
            ]))
            bits = {number % width for number in numbers} | {number // 32 % width for number in numbers}
            self.assertEqual(told[3], sum(1 << bit for bit in bits))
            self.assertIs(is_table(LARGE, told), True)

    def test_what_is_not_handed_in(self):
        self.assertEqual(table_of(LARGE), table_of(LARGE, buckets=4, width=32))
        self.assertEqual(table_of(LARGE, buckets=7), table_of(LARGE, buckets=7, width=32))


class IsTable(unittest.TestCase):
    LIBRARY = giving(give("a"), give("b", "v"), give("b", "w"), give("aa"))

    def no_table(self, thing):
        self.assertIs(is_table(self.LIBRARY, thing), False, thing)

    def test_of_the_table(self):
        for library in (self.LIBRARY, LARGE, SMALL):
            self.assertIs(is_table(library, table_of(library)), True)
        self.assertIs(is_table(self.LIBRARY, (1, 1, ((0, 1, 2, 3),), 1)), True)

    def test_of_things(self):
        for thing in THINGS + [nested(19), (4, 32), [0] * 9999, (0,) * 9999, (nested(18),) * 4]:
            self.no_table(thing)

    def test_each_part_by_any_thing(self):
        table = table_of(self.LIBRARY)
        for at in range(4):
            for thing in THINGS + [nested(18), 10 ** 29, -10 ** 29]:
                self.no_table((*table[:at], thing, *table[at + 1:]))

    def test_other_numbers_of_buckets_or_width(self):
        # The bits of aa, 34, are 2 and 1 by 32, 3 by 31, and 34 by 64; by 33 and 34 the sieve is the same.
        table = table_of(self.LIBRARY)
        for thing in (0, -1, 1, 3, 5, 16, 17, 10 ** 29, True, False, "4", None, (4,)):
            self.no_table((thing, *table[1:]))
        for thing in (0, -1, 1, 31, 64, 65, 10 ** 29, True, False, "32", None, (32,)):
            self.no_table((table[0], thing, *table[2:]))

    def test_out_of_their_bounds(self):
        numbers = [plain_number(given[0]) for given in self.LIBRARY[2]]
        chains = tuple([tuple([at for at, number in enumerate(numbers) if number % 17 == k]) for k in range(17)])
        self.no_table((17, 32, chains, table_of(self.LIBRARY)[3]))
        sieve = 0
        for number in numbers:
            sieve |= 1 << number % 65 | 1 << number // 32 % 65
        self.no_table((4, 65, table_of(self.LIBRARY)[2], sieve))
        self.no_table((0, 32, (), table_of(self.LIBRARY)[3]))
        self.assertIs(is_table(SMALL, (0, 32, (), 0)), False)
        self.assertIs(is_table(SMALL, (17, 32, ((),) * 17, 0)), False)
        self.assertIs(is_table(SMALL, (4, 0, ((),) * 4, 0)), False)
        self.assertIs(is_table(SMALL, (4, 65, ((),) * 4, 0)), False)

    def test_truths_for_numbers(self):
        self.assertIs(is_table(SMALL, (1, 1, ((),), 0)), True)
        for thing in ((True, 1, ((),), 0), (1, True, ((),), 0), (1, 1, ((),), False)):
            self.assertIs(is_table(SMALL, thing), False, thing)
        self.no_table((1, 1, ((False, True, 2, 3),), 1))
        self.no_table((1, 1, ((0, 1, 2, 3),), True))

    def test_lists_for_tuples(self):
        buckets, width, chains, sieve = table_of(self.LIBRARY)
        self.no_table([buckets, width, chains, sieve])
        self.no_table((buckets, width, list(chains), sieve))
        self.no_table((buckets, width, tuple([list(chain) for chain in chains]), sieve))
        self.no_table((buckets, width, (*chains[:3], []), sieve))

    def test_a_chain_or_the_sieve_otherwise(self):
        # a is 1, b 2, aa 34.
        self.assertEqual(table_of(self.LIBRARY), (4, 32, ((), (0,), (1, 2, 3), ()), 7))
        for chains in (((), (0,), (1, 2), ()), ((), (0,), (1, 3, 2), ()), ((), (0,), (1, 2, 3)),
                       ((), (0,), (1, 2, 3), (), ()), ((), (0,), (1, 2, 3, 3), ()), ((), (0,), (1, 2), (3,)),
                       ((), (0,), (1, 2, "3"), ()), ((), (0,), (1, 2, -1), ()), ((), (1, 2, 3), (0,), ())):
            self.no_table((4, 32, chains, 7))
        for sieve in (0, 6, 5, 15, 8, -7, 7 | 1 << 32, "7", None):
            self.no_table((4, 32, ((), (0,), (1, 2, 3), ()), sieve))
        self.no_table((4, 32, ((), (0,), (1, 2, 3), ()), 7, 0))
        self.no_table((4, 32, ((), (0,), (1, 2, 3), ())))

    def test_another_librarys(self):
        for library in (SMALL, LARGE, giving(give("a"), give("b", "v"), give("aa"), give("b", "w"))):
            other = table_of(library)
            self.assertIs(is_table(self.LIBRARY, other), other == table_of(self.LIBRARY))
            self.assertIs(is_table(library, table_of(library)), True)
        self.no_table(table_of(LARGE))
        # Words alone count: a library that gives otherwise by the same words has the same tables.
        self.assertIs(is_table(giving(give("a", what=DEED)), table_of(giving(give("a", "v", "f")))), True)


class Sought(unittest.TestCase):
    LIBRARY = giving(give("b", "v"), give("a", "v", "f"), give("f"), give("a", "", "f"), give("b", "w", "c"),
                     give("a", "w", "", DEED))

    def told(self, use, told, library=LIBRARY, shape=(4, 32), **more):
        table = table_of(library, buckets=shape[0], width=shape[1])
        ahead = copy.deepcopy(table)
        found = sought(library, table, use, **more)
        self.assertEqual(found, told)
        self.assertIs(is_sought(library, table, use, told, **more), True)
        self.assertEqual(table, ahead)

    def test_a_give(self):
        self.told(cell_use("f"), ("give", 2))
        self.told(cell_use("f", "v"), ("give", 2))

    def test_versions_along_one_chain(self):
        self.told(cell_use("b", "v"), ("give", 0))
        self.told(cell_use("b", "w"), ("give", 4))
        self.told(cell_use("b"), ("give", 4))
        self.told(deed_use("a", "w"), ("give", 5))
        self.told(cell_use("a"), ("give", 3))

    def test_faint(self):
        self.told(cell_use("a", "v"), ("give", 1))
        self.told(cell_use("a", "v"), ("give", 1), faint=False)
        # Where all that fit are faint the first one counts.
        self.told(cell_use("a", "v"), ("give", 1), faint=True)
        library = giving(give("a", "v", "f"), give("e"), give("a", "", ""))
        self.told(cell_use("a", "v"), ("give", 0), library)
        self.told(cell_use("a", "v"), ("give", 2), library, faint=True)

    def test_a_miss_by_a_bit(self):
        # c is 3: bits 3 and 0, of which the sieve has 0, as a thirty-second of a is 0.
        self.told(cell_use("c"), ("bit", 3))
        # Of the bits of bg, 73, 9 and 2, the sieve has 2; of those of ad, 37, 5 and 1, it has 1.
        self.told(cell_use("bg"), ("bit", 9))
        self.told(cell_use("ad"), ("bit", 5))

    def test_the_lesser_of_two_bits(self):
        # The number of dd is 136: bits 8 and 4.
        self.told(cell_use("dd"), ("bit", 4))
        # That of abc is 1158: bits 6 and 36 by 64, 6 and 4 by 32.
        self.told(cell_use("abc"), ("bit", 4))
        self.told(cell_use("a"), ("bit", 0), SMALL)
        self.told(cell_use("a"), ("bit", 0), SMALL, (1, 1))
        # g is 7: 7 by 64 and 0; in a library of aa, whose bits are 34 and 1, both lack.
        self.told(cell_use("g"), ("bit", 0), giving(give("aa")), (4, 64))

    def test_a_miss_by_a_chain(self):
        self.told(deed_use("f"), ("chain", (0, 2, 4)))
        self.told(cell_use("b", "x"), ("chain", (0, 2, 4)))
        self.told(deed_use("a"), ("chain", (1, 3, 5)))
        self.told(deed_use("a", "v"), ("chain", (1, 3, 5)), faint=True)

    def test_a_miss_by_an_empty_chain(self):
        # By a width of 1 each word has the sieve's one bit.
        self.told(cell_use("c"), ("chain", ()), shape=(4, 1))
        self.told(cell_use("d"), ("chain", ()), shape=(4, 1))
        self.told(cell_use("e"), ("chain", (1, 3, 5)), shape=(4, 1))

    def test_is_sought_of_any_thing(self):
        table = table_of(self.LIBRARY)
        for use, told in ((cell_use("f"), ("give", 2)), (cell_use("c"), ("bit", 3)),
                          (cell_use("b", "x"), ("chain", (0, 2, 4))), (cell_use("a", "v"), ("give", 1))):
            nearly = [("give", 2), ("give", 1), ("give", 3), ("give", True), ("give", "2"), ("give", 2, 0), ("give",),
                      ["give", 2], ("bit", 3), ("bit", 0), ("chain", 3), ("chain", [0, 2, 4]), ("chain", (0, 2)),
                      ("chain", (0, 2, 4)), ("chain", (False, 2, 4)), ("chain", (0, 4, 2)), ("chain", ()),
                      ("chain", 2), "give", 2, None, (2, "give"), ("give", None), ("give", (2,)), (("give", 2),)]
            for thing in nearly + THINGS + [nested(19), ("give", nested(18)), ("chain", (0,) * 9000)]:
                expected = repr(thing) == repr(told)
                self.assertIs(is_sought(self.LIBRARY, table, use, thing), expected, thing)

    def test_is_sought_by_faint(self):
        library = giving(give("a", "v", "f"), give("a", "", ""))
        table, use = table_of(library), cell_use("a", "v")
        self.assertIs(is_sought(library, table, use, ("give", 0)), True)
        self.assertIs(is_sought(library, table, use, ("give", 0), faint=True), False)
        self.assertIs(is_sought(library, table, use, ("give", 1), faint=True), True)
        self.assertIs(is_sought(library, table, use, ("give", 1)), False)

    def test_a_give_is_found_just_where_there_is_one(self):
        chance = random.Random(14)
        for _ in range(300):
            library = giving(*[give(chance.choice("abcdef"), chance.choice(["", "v", "w"]), chance.choice(["", "c", "f"]),
                                    chance.choice([1, DEED])) for _ in range(chance.randint(0, 8))])
            shape = (chance.randint(1, 16), chance.randint(1, 64))
            table = table_of(library, buckets=shape[0], width=shape[1])
            for word, version, cell, faint in itertools.product("abfg", ("", "v"), (True, False), (True, False)):
                use = (word, version, cell, True)
                found = meaning([library], use, faint=faint)
                told = sought(library, table, use, faint=faint)
                if found is not None:
                    self.assertEqual(told, ("give", found[1]))
                    continue
                bits = {plain_number(word) % shape[1], plain_number(word) // 32 % shape[1]}
                lacking = sorted(bit for bit in bits if not table[3] >> bit & 1)
                miss = ("bit", lacking[0]) if lacking else ("chain", table[2][plain_number(word) % shape[0]])
                self.assertEqual(told, miss)


if __name__ == "__main__":
    unittest.main()
