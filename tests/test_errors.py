"""The refusals: what they derive from, and their fields."""

import unittest

from latehall import errors

# name, the class of Python's it stands under, its fields
REFUSALS = [
    ("NoLibrary", LookupError, ("name",)),
    ("Unmet", LookupError, ("name", "word")),
    ("Closed", ValueError, ()),
    ("Ended", RuntimeError, ()),
    ("NoWord", KeyError, ("word",)),
    ("Full", OverflowError, ()),
    ("NoText", ValueError, ("line",)),
    ("NotTaken", IndexError, ("at",)),
    ("Vacant", IndexError, ("address",)),
    ("NoRow", ValueError, ()),
]
FIELDS = ("first", "second")


class Refusals(unittest.TestCase):
    def test_each_stands_right_under_its_class_alone(self):
        for name, base, _ in REFUSALS:
            with self.subTest(name):
                self.assertEqual(getattr(errors, name).__bases__, (base,))

    def test_none_stands_under_another_one(self):
        for name, _, _ in REFUSALS:
            for other, _, _ in REFUSALS:
                if name != other:
                    with self.subTest(name, other=other):
                        self.assertFalse(issubclass(getattr(errors, name), getattr(errors, other)))

    def test_each_is_defined_in_this_file(self):
        for name, _, _ in REFUSALS:
            self.assertEqual(getattr(errors, name).__module__, "latehall.errors")

    def test_fields_are_as_handed_in(self):
        for name, _, fields in REFUSALS:
            with self.subTest(name):
                told = FIELDS[:len(fields)]
                refusal = getattr(errors, name)(*told)
                self.assertEqual(vars(refusal), dict(zip(fields, told)))

    def test_fields_may_be_any_thing(self):
        thing = [{"a": (1, None)}]
        for name, _, fields in REFUSALS:
            refusal = getattr(errors, name)(*[thing for _ in fields])
            for field in fields:
                self.assertIs(getattr(refusal, field), thing)
        self.assertEqual(thing, [{"a": (1, None)}])

    def test_a_field_too_few_or_too_many_is_an_error(self):
        for name, _, fields in REFUSALS:
            if fields:
                with self.subTest(name):
                    self.assertRaises(TypeError, getattr(errors, name), *FIELDS[:len(fields) - 1])
                    self.assertRaises(TypeError, getattr(errors, name), *FIELDS[:len(fields)], 1)

    def test_each_is_raised_and_caught_by_its_name_and_its_base(self):
        for name, base, fields in REFUSALS:
            for caught in (getattr(errors, name), base):
                with self.assertRaises(caught):
                    raise getattr(errors, name)(*FIELDS[:len(fields)])


if __name__ == "__main__":
    unittest.main()
