"""Histories of many calls of all kinds, by a hall and by a plain reader of the tests' own
that reckons all walks and scopes anew at each row (points 2, 3 and 13 to 24, 26, 34)."""

import random
import unittest

from latehall.errors import Closed, Ended, Full, NoLibrary, NoWord, Unmet
from latehall.halls import Hall
from latehall.libraries import is_shelf
from latehall.nets import is_cut, is_way, reached
from plain_reader import No, Reader
from shelves_by_chance import NAMES, call_by_chance, library_by_chance, shelf_by_chance, some

HISTORIES = 250
CALLS = 25
END = 22


def answer(call, *told, **more):
    try:
        return ("ok", call(*told, **more))
    except (NoLibrary, Unmet, Closed, Ended, NoWord, Full) as refusal:
        return ("no", (type(refusal).__name__, *vars(refusal).values()))
    except No as refusal:
        return ("no", refusal.args)


def by_hall(hall, word, told, more):
    """A call of a hall, holds by their numbers."""
    if word == "bring":
        return hall.bring(*told, **more).number
    if word in ("shelve", "end"):
        return getattr(hall, word)(*told)
    return getattr(hall, word)(hall.hold(told[0]), *told[1:], **more)


class Histories(unittest.TestCase):
    def alike(self, hall, reader, turning):
        self.assertEqual(hall.told(), reader.told)
        self.assertEqual(hall.state(), reader.state())
        self.assertEqual(hall.net(), reader.net())
        self.assertEqual(hall.gone(), reader.gone)
        self.assertEqual(len(hall), len(reader.standing))
        self.assertEqual(hall.held(), [opening[0] for opening in reader.openings])
        self.assertEqual(hall.beginning(), reader.begun)
        self.assertEqual(hall.stands(), sorted((one, space, library[0]) for one, space, library in reader.standing))
        self.assertEqual(hall.turned_by(turning), reader.turned_by(turning))
        for one, space, library in reader.standing:
            self.assertEqual(hall.walk(one), reader.walk(one))
            self.assertEqual(hall.scope(one), reader.scope(one))
            self.assertEqual(hall.all_of(space), reader.all_of(space))
            self.assertEqual(hall.means(one), [reader.bound.get((one, use)) for use in range(len(library[3]))])
            self.assertEqual(hall.cells_of(one), {key[1]: reader.cells[key] for key in reader.cells if key[0] == one})
        self.kept(hall)

    def kept(self, hall):
        """What point 24 says of nets and ways, behind any call."""
        net = hall.net()
        self.assertEqual(reached(net), [number for number, _, _ in hall.stands()])
        for number in range(net[0]):
            told = hall.why(number)
            self.assertEqual(told is None, number not in reached(net))
            self.assertTrue(told is None or is_way(net, number, told[1]))
        numbers, ahead = hall.gone()
        self.assertTrue(is_cut(ahead, sorted(numbers)))

    def history(self, seed):
        chance = random.Random(seed)
        shelf = shelf_by_chance(chance, chance.choice([0, 0.3]), chance.choice([2, 4, 8]))
        self.assertTrue(is_shelf(shelf))
        main = chance.choice(NAMES)
        more = {"ahead": some(chance, [name for name in NAMES if name != main], 2),
                "early": chance.random() < 0.3, "faint": chance.random() < 0.5}
        made, plain = answer(Hall, shelf, main, **more), answer(Reader, shelf, main, **more)
        self.assertEqual(made[0], plain[0])
        if made[0] == "no":
            self.assertEqual(made, plain)
            return {"making refused": 1}
        return self.calls(chance, made[1], plain[1])

    def calls(self, chance, hall, reader):
        """Plays calls; told is how often each kind of answer came."""
        many = {"making": 1}
        for at in range(CALLS):
            word, told, more = call_by_chance(chance, reader.number) if at != END else ("end", (), {})
            if reader.openings and word in ("drop", "look", "call", "show") and chance.random() < 0.8:
                told = (chance.choice(reader.openings)[0], *told[1:])
            ahead = (hall.state(), hall.told(), hall.net(), hall.gone())
            given = answer(by_hall, hall, word, told, more)
            self.assertEqual(given, answer(getattr(reader, word), *told, **more))
            if given[0] == "no":
                self.assertEqual((hall.state(), hall.told(), hall.net(), hall.gone()), ahead)
            kind = word if given[0] == "ok" else f"{word} {given[1][0]}"
            many[kind] = many.get(kind, 0) + 1
            self.alike(hall, reader, library_by_chance(chance, chance.choice(NAMES)))
        for what in ("cut", None):
            many[what] = [row[1] for row in reader.told].count(what)
        return many

    def test_by_chance(self):
        many = {}
        for seed in range(HISTORIES):
            with self.subTest(seed=seed):
                for kind, count in self.history(seed).items():
                    many[kind] = many.get(kind, 0) + count
        # Each kind of answer came, so each was compared.
        for kind in ("making", "making refused", "bring", "bring NoLibrary", "bring Unmet", "bring Ended", "drop",
                     "drop Closed", "look", "look Closed", "call", "call Closed", "call NoWord", "show", "show NoWord",
                     "shelve", "end", "cut", None):
            self.assertGreater(many.get(kind, 0), 20, kind)


if __name__ == "__main__":
    unittest.main()
