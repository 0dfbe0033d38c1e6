"""The error classes of [17] and [2]."""

import inspect
import unittest

from giveways import errors

KEPT = {
    "BadLine": "number", "BadText": "piece", "Known": "name", "NoGroup": "name", "NoHouse": "name",
    "NoNumber": "number", "NoQueue": "name", "NoSignal": "name", "NoStep": "number", "NoTask": "name",
    "NotReady": "name", "NotWhole": None, "NothingDone": None, "Unfit": None,
}


class Errors(unittest.TestCase):
    def classes(self):
        return {name: getattr(errors, name) for name in KEPT}

    def test_the_fourteen_and_no_other_one(self):
        found = {name for name, thing in vars(errors).items() if inspect.isclass(thing)}
        self.assertEqual(found, set(KEPT) | {"HouseError"})
        self.assertEqual(len(KEPT), 14)

    def test_what_they_stand_under(self):
        self.assertEqual(errors.HouseError.__bases__, (ValueError,))
        for name, error in self.classes().items():
            self.assertEqual(error.__bases__, (errors.HouseError,), name)
            self.assertEqual(error.__module__, "giveways.errors")

    def test_values_by_places_and_by_names(self):
        for name, error in self.classes().items():
            kept = KEPT[name]
            if kept is None:
                self.assertEqual(vars(error()), {})
                continue
            for value in ("ann", 7, -1, "", ("a", 0)):
                self.assertEqual(vars(error(value)), {kept: value})
                self.assertEqual(vars(error(**{kept: value})), {kept: value})

    def test_values_must_be_handed_in(self):
        for name, error in self.classes().items():
            if KEPT[name] is not None:
                with self.assertRaises(TypeError):
                    error()

    def test_they_are_raised_and_caught(self):
        for name, error in self.classes().items():
            made = error() if KEPT[name] is None else error(3)
            with self.assertRaises(errors.HouseError) as caught:
                raise made
            self.assertIs(caught.exception, made)
            self.assertIsInstance(made, ValueError)
            self.assertIsInstance(str(made), str)
