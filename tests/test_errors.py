"""The exception classes: points [8] and [11]."""

import inspect
import unittest

from filerights import errors
from filerights.errors import MissingError, RefusedError, RightsError
from helpers import any_values

BASES = {RightsError: ValueError, MissingError: KeyError, RefusedError: LookupError}

FIELDS = {
    RightsError: {
        "InvalidInteger": ["value"], "InvalidName": ["value"], "InvalidPath": ["value"], "InvalidRights": ["value"],
        "InvalidDigits": ["value"], "InvalidList": ["value"], "InvalidEntry": ["value"], "InvalidPeople": ["value"],
        "InvalidNode": ["value"], "InvalidHouse": ["value"], "InvalidContent": ["value"], "InvalidDeed": ["value"],
        "InvalidDeeds": ["value"], "InvalidScript": ["value"], "InvalidStart": ["value"], "InvalidFree": ["value"],
        "InvalidGoal": ["value"], "InvalidGoals": ["value"], "InvalidKeeps": ["value"], "InvalidText": ["value"],
        "InvalidLine": ["index"], "InvalidCommand": ["value"], "TooMany": ["count"], "Ground": ["path"],
    },
    MissingError: {
        "UnknownUser": ["name"], "UnknownGroup": ["name"], "UnknownEntry": ["name"], "Absent": ["path"],
    },
    RefusedError: {
        "Denied": ["path", "letters"], "NotOwner": ["path"], "Held": ["path"], "Taken": ["path"],
        "NotFolder": ["path"], "NotFile": ["path"], "NotEmpty": ["path"], "Inside": ["path"], "NotMember": ["name"],
        "DeedFailed": ["index"], "NothingToUndo": [], "Kept": ["value"],
    },
}

ROWS = [(base, getattr(errors, name), fields) for base in FIELDS for name, fields in FIELDS[base].items()]


class ErrorsTest(unittest.TestCase):
    def test_there_are_these_classes_and_no_others(self):
        found = [name for name, value in vars(errors).items() if inspect.isclass(value)]
        told = [base.__name__ for base in BASES] + [name for base in FIELDS for name in FIELDS[base]]
        self.assertEqual(sorted(found), sorted(told))
        self.assertEqual(len(told), 43)

    def test_bases(self):
        for base, builtin in BASES.items():
            self.assertEqual(base.__bases__, (builtin,))
            self.assertIsInstance(base("some words"), builtin)
            self.assertIn("some words", str(base("some words")))

    def test_each_class_stands_directly_under_its_one_base(self):
        for base, kind, _ in ROWS:
            self.assertEqual(kind.__bases__, (base,), kind)
            self.assertEqual(kind.__module__, "filerights.errors")

    def test_fields_by_position_and_by_name(self):
        for _, kind, fields in ROWS:
            for value in any_values():
                values = [value, [value]][:len(fields)]
                for error in (kind(*values), kind(**dict(zip(fields, values)))):
                    self.assertEqual(sorted(vars(error)), sorted(fields))
                    for field, passed in zip(fields, values):
                        self.assertIs(getattr(error, field), passed)

    def test_fields_of_two_errors_are_their_own(self):
        for _, kind, fields in ROWS:
            one, other = [object() for _ in fields], [object() for _ in fields]
            first, second = kind(*one), kind(*other)
            self.assertEqual([getattr(first, field) for field in fields], one)
            self.assertEqual([getattr(second, field) for field in fields], other)

    def test_one_argument_for_each_field(self):
        for _, kind, fields in ROWS:
            if fields:
                self.assertRaises(TypeError, kind)
                self.assertRaises(TypeError, kind, *range(len(fields) + 1))

    def test_raised_and_caught_by_class_base_and_builtin(self):
        for base, kind, fields in ROWS:
            for caught in (kind, base, BASES[base]):
                with self.assertRaises(caught) as context:
                    raise kind(*["x" for _ in fields])
                self.assertIs(context.exception.__class__, kind)

    def test_texts(self):
        for _, kind, fields in ROWS:
            error = kind(*["x" for _ in fields])
            self.assertIsInstance(str(error), str)
            self.assertIsInstance(repr(error), str)


if __name__ == "__main__":
    unittest.main()
