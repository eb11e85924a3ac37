import unittest

from helpers import Case
from nearestsays import errors
from nearestsays.errors import TableError

ATTRIBUTES = {
    "BadName": ["value"], "BadPlace": ["value"], "BadColumn": ["value"], "BadCells": ["place"],
    "NoRow": ["place"], "UnlikeColumns": [], "TooMany": ["most"], "NoStep": ["value"], "BadPlan": ["at"],
    "NoOrder": ["k"], "Ringed": ["ring"], "Divided": ["place"], "BadStanding": ["value"], "ManyColumns": [],
    "Clash": ["place"], "BadHearings": ["at"], "Contradiction": ["value"],
    "ThirdAnswer": ["place", "column", "heard"], "TooEarly": ["number", "ahead"], "NoExchange": [],
    "Underway": [], "BadRule": ["value"], "BadText": ["line", "word"], "BadLine": ["word"],
}


class Errors(Case):
    def test_the_base_class_stands_below_value_error(self):
        self.assertEqual(TableError.__bases__, (ValueError,))

    def test_each_class_stands_directly_below_the_base_class(self):
        for name in ATTRIBUTES:
            self.assertEqual(getattr(errors, name).__bases__, (TableError,), name)

    def test_there_are_no_other_classes(self):
        found = [name for name, thing in vars(errors).items() if isinstance(thing, type)]
        self.assertEqual(sorted(found), sorted([*ATTRIBUTES, "TableError"]))

    def test_made_by_position(self):
        for name, attributes in ATTRIBUTES.items():
            values = [f"v{number}" for number in range(len(attributes))]
            error = getattr(errors, name)(*values)
            self.assertEqual(vars(error), dict(zip(attributes, values)), name)

    def test_made_by_name(self):
        for name, attributes in ATTRIBUTES.items():
            values = {attribute: [attribute] for attribute in reversed(attributes)}
            error = getattr(errors, name)(**values)
            self.assertEqual(vars(error), values, name)

    def test_an_error_keeps_what_was_passed(self):
        value = [1, 2]
        self.assertIs(errors.BadName(value).value, value)
        self.assertIs(errors.BadPlace(True).value, True)

    def test_raised_and_caught_by_its_own_class_and_by_both_bases(self):
        for base in (errors.BadPlace, TableError, ValueError):
            with self.assertRaises(base):
                raise errors.BadPlace("/docs/")

    def test_another_class_does_not_catch_it(self):
        with self.assertRaises(errors.BadPlan):
            try:
                raise errors.BadPlan(3)
            except (errors.BadPlace, errors.BadName, errors.NoStep, errors.TooMany):
                pass


if __name__ == "__main__":
    unittest.main()
