"""[0.3] The error classes."""

import unittest

from oncekinds import errors
from oncekinds.errors import KindError
from tests.samples import things

FIELDS = {
    "BadProgram": ["index"],
    "NoPlace": [],
    "NoNames": [],
    "SharedNames": [],
    "NoName": [],
    "NoStep": [],
    "NothingDone": [],
    "BadKind": ["index"],
    "NoKind": [],
    "NoFillings": [],
    "NotClosed": [],
    "NoNumber": [],
    "TooMany": ["most"],
    "NoValues": [],
    "BadText": ["index"],
    "NoLine": [],
    "Unknown": ["name"],
    "NoProgram": [],
    "Ended": [],
    "NoText": [],
}


class ErrorsTest(unittest.TestCase):

    def test_each_derives_directly(self):
        self.assertEqual(KindError.__bases__, (ValueError,))
        for name in FIELDS:
            with self.subTest(name):
                self.assertEqual(getattr(errors, name).__bases__, (KindError,))
                self.assertEqual(getattr(errors, name).__module__, "oncekinds.errors")

    def test_there_are_no_others(self):
        told = [name for name, value in vars(errors).items() if isinstance(value, type)]
        self.assertEqual(sorted(told), sorted([*FIELDS, "KindError"]))

    def test_fields_keep_the_very_object(self):
        for name, fields in FIELDS.items():
            for field in fields:
                for thing in things():
                    with self.subTest(name=name, thing=repr(thing)[:60]):
                        error = getattr(errors, name)(thing)
                        self.assertIs(getattr(error, field), thing)
                        self.assertEqual(list(vars(error)), [field])

    def test_those_without_fields_are_made_with_nothing(self):
        for name, fields in FIELDS.items():
            if not fields:
                with self.subTest(name):
                    self.assertEqual(vars(getattr(errors, name)()), {})

    def test_each_is_made_with_just_its_fields(self):
        for name, fields in FIELDS.items():
            with self.subTest(name):
                with self.assertRaises(TypeError):
                    getattr(errors, name)(*fields, 0)
                if fields:
                    with self.assertRaises(TypeError):
                        getattr(errors, name)()

    def test_each_is_caught_as_what_it_derives_from(self):
        for name, fields in FIELDS.items():
            for above in (getattr(errors, name), KindError, ValueError):
                with self.subTest(name=name, above=above.__name__):
                    with self.assertRaises(above):
                        raise getattr(errors, name)(*fields)


if __name__ == "__main__":
    unittest.main()
