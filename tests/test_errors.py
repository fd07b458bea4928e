"""The promises under holeshift/errors.py."""

import inspect
import unittest

from holeshift import errors
from tests.helper import Case, Untouchable, any_values

BASES = {
    "ShiftError": "ValueError", "BadInput": "ShiftError", "Refused": "ShiftError", "NoAnswer": "ShiftError",
    "Looked": "ShiftError",
}
BELOW = {
    "ShiftError": {"Looked": ["check", "amount"]},
    "BadInput": {
        "BadName": ["value"], "BadAmount": ["value"], "BadDay": ["value"], "BadItem": ["part"],
        "BadOffice": ["part"], "BadGaps": ["value"], "BadRow": ["part"], "BadBound": ["value"], "BadLook": ["at"],
        "BadMenu": ["at"], "BadText": ["line", "word"], "BadLine": ["word"],
    },
    "Refused": {
        "NoAccount": ["name"], "NoItem": ["name"], "NoKind": ["name"], "NoCheck": ["name"], "InUse": ["day"],
        "Clash": ["name"], "Unlike": ["part"], "TooMany": ["what", "most"], "Seen": ["day"],
    },
    "NoAnswer": {"NoDivisor": [], "NoDeed": [], "NoOffice": [], "NoBook": []},
}
FIELDS = {name: fields for group in BELOW.values() for name, fields in group.items()}


class TestErrors(Case):
    def test_bases(self):
        for name, base in BASES.items():
            self.assertEqual([found.__name__ for found in getattr(errors, name).__bases__], [base])
        self.assertIs(errors.ShiftError.__bases__[0], ValueError)
        for base, group in BELOW.items():
            for name in group:
                self.assertEqual(getattr(errors, name).__bases__, (getattr(errors, base),))

    def test_all_are_defined_here_and_no_others(self):
        found = {name for name, value in vars(errors).items() if inspect.isclass(value)}
        self.assertEqual(found, set(BASES) | set(FIELDS))
        for name in found:
            self.assertEqual(getattr(errors, name).__module__, "holeshift.errors")

    def test_fields_in_order_and_by_name(self):
        for name, fields in FIELDS.items():
            for value in any_values():
                values = [value, "other"][:len(fields)]
                made = [getattr(errors, name)(*values), getattr(errors, name)(**dict(zip(fields, values)))]
                for error in made:
                    self.assertEqual(list(vars(error)), fields)
                    for field, kept in zip(fields, values):
                        self.assertIs(getattr(error, field), kept)

    def test_takes_just_its_fields(self):
        for name, fields in FIELDS.items():
            if fields:
                self.assertRaises(TypeError, getattr(errors, name), *range(len(fields) - 1))
                self.assertRaises(TypeError, getattr(errors, name), *range(len(fields) + 1))

    def test_looks_at_nothing(self):
        for name, fields in FIELDS.items():
            values = [Untouchable() for _ in fields]
            error = getattr(errors, name)(*values)
            for field, kept in zip(fields, values):
                self.assertIs(getattr(error, field), kept)

    def test_each_is_raised_and_caught_by_its_bases(self):
        for base, group in BELOW.items():
            for name, fields in group.items():
                error = getattr(errors, name)(*fields)
                for caught in (getattr(errors, name), getattr(errors, base), errors.ShiftError, ValueError):
                    with self.assertRaises(caught):
                        raise error

    def test_the_bases_are_made_without_fields(self):
        for name in ("ShiftError", "BadInput", "Refused", "NoAnswer"):
            self.assertEqual(vars(getattr(errors, name)()), {})


if __name__ == "__main__":
    unittest.main()
