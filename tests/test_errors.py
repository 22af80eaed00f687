"""The error classes of the interface."""

import copy
import inspect
import unittest

from sightsums import errors
from sightsums.errors import SightError

WITH_THING = (
    "BadShape", "BadModulus", "BadLot", "BadWord", "BadList", "BadFamily", "BadSystem", "BadScheme",
    "BadPlan", "BadDemand", "BadQuestion", "BadTold", "BadWeb", "BadNumber",
)
PARAMETERS = {**{name: "thing" for name in WITH_THING}, "Barred": "certificate"}
VALUES = (
    0, 1, -5, 10 ** 100, True, False, None, "", "thing", (), (1, (2, [3])), [], [1, [2]], {}, {"a": [1]},
    ("bar", (0,), (1,), ((1, 2),)), 10 ** 5000, object(),
)


class Errors(unittest.TestCase):
    def test_base_class(self):
        self.assertEqual(SightError.__bases__, (Exception,))
        self.assertEqual(SightError.__module__, "sightsums.errors")
        with self.assertRaises(SightError):
            raise SightError()

    def test_each_class_has_the_stated_base_and_parameter(self):
        for name, parameter in PARAMETERS.items():
            with self.subTest(name):
                kind = getattr(errors, name)
                self.assertEqual(kind.__bases__, (SightError,))
                self.assertEqual((kind.__name__, kind.__module__), (name, "sightsums.errors"))
                self.assertIn("__init__", vars(kind))
                self.assertEqual(list(inspect.signature(kind).parameters), [parameter])

    def test_no_other_error(self):
        found = {name for name, value in vars(errors).items() if inspect.isclass(value)}
        self.assertEqual(found, {"SightError", *PARAMETERS})

    def test_attribute_by_position_and_by_name(self):
        for name, parameter in PARAMETERS.items():
            kind = getattr(errors, name)
            for value in VALUES:
                before = copy.deepcopy(value) if not type(value) is object else value
                by_position, by_name = kind(value), kind(**{parameter: value})
                self.assertIs(getattr(by_position, parameter), value)
                self.assertIs(getattr(by_name, parameter), value)
                self.assertEqual(vars(by_position), {parameter: value})
                self.assertEqual(vars(by_name), {parameter: value})
                self.assertEqual(value, before)

    def test_just_one_argument(self):
        for name in PARAMETERS:
            kind = getattr(errors, name)
            self.assertRaises(TypeError, kind)
            self.assertRaises(TypeError, kind, 1, 2)
            self.assertRaises(TypeError, lambda kind=kind: kind(other=1))

    def test_raised_and_caught(self):
        for name, parameter in PARAMETERS.items():
            kind = getattr(errors, name)
            for value in VALUES:
                for caught in (kind, SightError, Exception):
                    with self.assertRaises(caught) as held:
                        raise kind(value)
                    self.assertIs(type(held.exception), kind)
                    self.assertIs(getattr(held.exception, parameter), value)

    def test_no_class_catches_another_one(self):
        for name in PARAMETERS:
            for other in PARAMETERS:
                self.assertEqual(issubclass(getattr(errors, name), getattr(errors, other)), name == other)

    def test_can_be_written_out_and_copied_whatever_they_carry(self):
        for name, parameter in PARAMETERS.items():
            for value in VALUES:
                error = getattr(errors, name)(**{parameter: value})
                self.assertIsInstance(str(error), str)
                self.assertTrue(str(error))
                self.assertIsInstance(repr(error), str)
                self.assertIs(getattr(copy.copy(error), parameter), value)


if __name__ == "__main__":
    unittest.main()
