"""The errors: their attributes and their base class."""

import unittest

from keybehind import errors
from keybehind.errors import OrderError

PARAMETERS = {
    "BadFamily": ("part",), "NoLine": ("kind",), "NoKind": ("kind",), "NoField": ("field",),
    "NotRecord": ("thing",), "BadCondition": ("thing",), "BadComparison": ("thing",), "BadKey": ("thing",),
    "BadOperators": ("part",), "OtherFamily": (), "TooMany": ("cells",), "Broken": ("records",),
    "NotOrder": ("records",), "Opposite": ("one", "other"), "NoRow": ("most",),
    "Refused": ("sign", "one", "other"), "NothingThere": (), "InvalidText": (),
}
VALUES = (None, True, 0, 10 ** 39, "", "pen", (), ("pen", (1, 2)), [1, [2]], {"a": [{}]})


class Errors(unittest.TestCase):
    def test_there_are_these_errors_and_no_others(self):
        found = [name for name, thing in vars(errors).items()
                 if isinstance(thing, type) and issubclass(thing, BaseException)]
        self.assertEqual(sorted(found), sorted([*PARAMETERS, "OrderError"]))
        self.assertEqual(len(PARAMETERS), 18)

    def test_bases(self):
        self.assertEqual(OrderError.__bases__, (Exception,))
        for name in PARAMETERS:
            self.assertEqual(getattr(errors, name).__bases__, (OrderError,))

    def test_none_is_another_one(self):
        for name, parameters in PARAMETERS.items():
            error = getattr(errors, name)(*parameters)
            same = [other for other in PARAMETERS if isinstance(error, getattr(errors, other))]
            self.assertEqual(same, [name])
            self.assertNotIsInstance(error, (ValueError, LookupError, TypeError))

    def test_attributes_by_position(self):
        for name, parameters in PARAMETERS.items():
            for at in range(len(VALUES)):
                given = [VALUES[(at + k) % len(VALUES)] for k in range(len(parameters))]
                error = getattr(errors, name)(*given)
                for parameter, value in zip(parameters, given):
                    self.assertIs(getattr(error, parameter), value)

    def test_attributes_by_name(self):
        for name, parameters in PARAMETERS.items():
            given = dict(zip(parameters, VALUES[6:]))
            for order in (list(given), list(given)[::-1]):
                error = getattr(errors, name)(**{parameter: given[parameter] for parameter in order})
                for parameter in parameters:
                    self.assertIs(getattr(error, parameter), given[parameter])

    def test_they_can_be_raised_and_caught(self):
        for name, parameters in PARAMETERS.items():
            with self.assertRaises(OrderError) as caught:
                raise getattr(errors, name)(*parameters)
            self.assertIs(caught.exception.__class__, getattr(errors, name))

    def test_parameters_are_due(self):
        for name, parameters in PARAMETERS.items():
            if parameters:
                self.assertRaises(TypeError, getattr(errors, name))
                self.assertRaises(TypeError, getattr(errors, name), *parameters, "more")


if __name__ == "__main__":
    unittest.main()
