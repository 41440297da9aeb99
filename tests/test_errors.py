"""[15], and what [4] says of errors."""

import inspect
import unittest

from comesthrough import errors
from comesthrough.errors import NotKept, ThroughError
from tests.samples import junk

FIELDS = {
    "BadStep": ["index"], "CannotStep": ["person"], "Forgets": ["kind"], "GoesRound": ["persons"], "NoCommand": [],
    "NoKind": ["name"], "NoPerson": ["person"], "NoSort": ["name"], "NoText": ["line"], "NotKept": ["index", "shown"],
    "NotLater": ["kind"], "NotMeek": [], "Nothing": [], "Taken": ["name"], "TooFew": [], "TooMany": ["most"],
    "Wrong": ["place"],
}


def made(name, things):
    return getattr(errors, name)(*things)


class TestErrors(unittest.TestCase):
    def test_just_these_classes(self):
        found = [name for name, thing in vars(errors).items() if inspect.isclass(thing)]
        self.assertEqual(sorted(found), sorted([*FIELDS, "ThroughError"]))

    def test_bases(self):
        self.assertEqual(ThroughError.__bases__, (ValueError,))
        for name in FIELDS:
            self.assertEqual(getattr(errors, name).__bases__, (ThroughError,), name)

    def test_fields_are_the_very_objects(self):
        for name, fields in FIELDS.items():
            for thing in junk():
                things = [thing] + [[thing] for _ in fields[1:]]
                error = made(name, things[:len(fields)])
                for field, one in zip(fields, things):
                    self.assertIs(getattr(error, field), one)

    def test_a_list_that_grows(self):
        grown, shown = [1], {"a": [2]}
        error = NotKept(grown, shown)
        grown.append(3)
        shown["a"].append(4)
        self.assertEqual((error.index, error.shown), ([1, 3], {"a": [2, 4]}))
        for name, fields in FIELDS.items():
            if len(fields) == 1:
                thing = []
                error = made(name, [thing])
                thing.append(name)
                self.assertEqual(getattr(error, fields[0]), [name])

    def test_caught(self):
        for name, fields in FIELDS.items():
            for caught in (getattr(errors, name), ThroughError, ValueError):
                with self.assertRaises(caught):
                    raise made(name, [None] * len(fields))

    def test_not_caught_as_another(self):
        for name, fields in FIELDS.items():
            for other in FIELDS:
                error = made(name, [None] * len(fields))
                self.assertEqual(isinstance(error, getattr(errors, other)), other == name)

    def test_parameters(self):
        for name, fields in FIELDS.items():
            if fields:
                self.assertEqual(list(inspect.signature(getattr(errors, name)).parameters), fields)


if __name__ == "__main__":
    unittest.main()
