"""The error classes: their base classes, parameters, attributes and codes."""

import inspect
import unittest

from tiedmoments import errors

PARAMETERS = {
    "InvalidName": ["value"], "InvalidRow": ["at"], "DuplicateName": ["name"], "InvalidStep": ["process", "index"],
    "DuplicateMessage": ["message"], "Unsent": ["message"], "Ring": ["process"], "TooMany": ["subject", "most"],
    "InvalidPoint": ["value"], "InvalidMoment": ["value"], "InvalidClause": ["at"], "Parted": ["at", "one", "other"],
    "UnlikeLogs": [], "EmptyLot": [], "InvalidNumber": ["value"], "InvalidWeights": [], "Uneven": ["block"],
    "InvalidTests": ["at"], "InvalidText": ["at"], "InvalidCommand": ["at"], "Full": ["limit"],
    "InvalidLimit": ["value"], "InvalidPage": ["line"],
    "UnknownProcess": ["name"], "UnknownStep": ["step"], "UnknownName": ["name"],
    "NothingLeft": [],
}
MISSING = ["UnknownProcess", "UnknownStep", "UnknownName"]
VALUES = [None, True, False, 0, -7, 10 ** 30, "", "word", "two words\n", (), [], ("a", 1), ["a", [None]], {"k": 1}]


def base_of(name):
    if name in MISSING:
        return errors.Missing
    return IndexError if name == "NothingLeft" else errors.LogError


class ErrorTest(unittest.TestCase):

    def check(self, error, name, expected):
        self.assertEqual(error.code, name)
        for attribute, value in expected.items():
            self.assertIs(getattr(error, attribute), value)

    def test_attributes_and_code_by_position(self):
        for name, parameters in PARAMETERS.items():
            for shift in range(len(VALUES)):
                values = [VALUES[(shift + k) % len(VALUES)] for k in range(len(parameters))]
                with self.subTest(name=name, values=values):
                    self.check(getattr(errors, name)(*values), name, dict(zip(parameters, values)))

    def test_attributes_and_code_by_name(self):
        for name, parameters in PARAMETERS.items():
            for shift in range(len(VALUES)):
                named = {parameter: VALUES[(shift + 3 * k) % len(VALUES)] for k, parameter in enumerate(parameters)}
                backwards = dict(reversed(list(named.items())))
                with self.subTest(name=name, named=named):
                    self.check(getattr(errors, name)(**named), name, named)
                    self.check(getattr(errors, name)(**backwards), name, named)

    def test_attributes_by_position_and_by_name_mixed(self):
        self.check(errors.InvalidStep("a", index=3), "InvalidStep", {"process": "a", "index": 3})
        self.check(errors.TooMany("steps", most=20), "TooMany", {"subject": "steps", "most": 20})
        self.check(errors.Parted(0, other=(1,), one=()), "Parted", {"at": 0, "one": (), "other": (1,)})

    def test_direct_base_classes(self):
        self.assertEqual(errors.LogError.__bases__, (ValueError,))
        self.assertEqual(errors.Missing.__bases__, (LookupError,))
        for name in PARAMETERS:
            with self.subTest(name=name):
                self.assertEqual(getattr(errors, name).__bases__, (base_of(name),))

    def test_no_other_class_above_or_below(self):
        for name in PARAMETERS:
            for other in PARAMETERS:
                if other != name:
                    self.assertFalse(issubclass(getattr(errors, name), getattr(errors, other)), (name, other))
            self.assertEqual(getattr(errors, name).__subclasses__(), [])
        below = {error.__name__ for error in errors.LogError.__subclasses__()}
        self.assertEqual(below, set(PARAMETERS) - set(MISSING) - {"NothingLeft"})
        self.assertEqual({error.__name__ for error in errors.Missing.__subclasses__()}, set(MISSING))
        self.assertFalse(issubclass(errors.Missing, errors.LogError))

    def test_each_class_has_its_own_constructor_in_this_file(self):
        for name, parameters in PARAMETERS.items():
            error = getattr(errors, name)
            self.assertEqual((error.__module__, error.__name__), ("tiedmoments.errors", name))
            self.assertIn("__init__", vars(error))
            self.assertEqual(list(inspect.signature(error).parameters), parameters)

    def test_raised_and_caught_by_the_base_class(self):
        for name, parameters in PARAMETERS.items():
            with self.assertRaises(base_of(name)) as caught:
                raise getattr(errors, name)(*["v"] * len(parameters))
            self.assertIs(caught.exception.__class__, getattr(errors, name))
            self.assertIsInstance(str(caught.exception), str)

    def test_the_base_classes_can_be_raised(self):
        for base, above in ((errors.LogError, ValueError), (errors.Missing, LookupError)):
            with self.assertRaises(above):
                raise base()


if __name__ == "__main__":
    unittest.main()
