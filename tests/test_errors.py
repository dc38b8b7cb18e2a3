"""The errors of the interface, with their fields."""

import unittest

from pushedclerks import errors

FIELDS = {
    "BadMachine": ("part",),
    "BadNumber": (),
    "BadLetters": (),
    "BadStrikes": ("index",),
    "BadState": (),
    "Forgets": (),
    "BadStep": (),
    "Remembers": (),
    "BadLine": ("line",),
    "BadText": ("place",),
    "BadWeights": (),
    "BadChance": (),
}


class Errors(unittest.TestCase):
    def test_the_base_class(self):
        self.assertEqual((ValueError,), errors.ClerkError.__bases__)

    def test_direct_subclasses(self):
        for name in FIELDS:
            with self.subTest(name):
                kind = getattr(errors, name)
                self.assertEqual((errors.ClerkError,), kind.__bases__)
                self.assertEqual("pushedclerks.errors", kind.__module__)
                self.assertEqual(name, kind.__name__)

    def test_no_others(self):
        found = {name for name, value in vars(errors).items() if isinstance(value, type)}
        self.assertEqual({"ClerkError", *FIELDS}, found)

    def test_fields(self):
        for name, fields in FIELDS.items():
            kind = getattr(errors, name)
            for values in (("steps",), (0,), (4000,), (None,)):
                with self.subTest(name, values=values):
                    told = dict(zip(fields, values))
                    self.assertEqual(told, vars(kind(**told)))
                    self.assertEqual(told, vars(kind(*told.values())))

    def test_caught_as_base_and_as_value_error(self):
        for name, fields in FIELDS.items():
            for base in (errors.ClerkError, ValueError):
                with self.subTest(name, base=base), self.assertRaises(base):
                    raise getattr(errors, name)(*fields)


if __name__ == "__main__":
    unittest.main()
