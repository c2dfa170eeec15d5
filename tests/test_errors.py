"""The errors: their bases, their attributes, and that none is caught as another."""

import unittest

from splitplans import errors

BASES = {"PlanError": ValueError}
BASES.update({name: errors.PlanError for name in ("InputError", "RunError", "SizeError")})

UNDER = {
    "InputError": {
        "InvalidTerm": ["text"],
        "InvalidTable": ["name", "reason"],
        "InvalidWorld": ["reason"],
        "InvalidStep": ["reason"],
        "InvalidPlan": ["number", "reason"],
        "InvalidText": ["row", "word"],
        "InvalidMenu": ["index", "reason"],
        "UnknownName": ["name"],
        "UnknownDeed": ["index"],
    },
    "RunError": {
        "NoMove": ["exchange", "receiver", "sender"],
        "NotEnded": [],
        "NothingToUndo": [],
    },
    "SizeError": {"TooMany": ["limit"]},
}

ALL = {name: names for group in UNDER.values() for name, names in group.items()}


class Errors(unittest.TestCase):
    def test_bases_of_bases(self):
        for name, base in BASES.items():
            self.assertEqual(getattr(errors, name).__bases__, (base,), name)

    def test_each_stands_right_under_its_base(self):
        for base, group in UNDER.items():
            for name in group:
                self.assertEqual(getattr(errors, name).__bases__, (getattr(errors, base),), name)

    def test_arguments_are_attributes(self):
        for name, names in ALL.items():
            given = [f"given {at}" for at in range(len(names))]
            error = getattr(errors, name)(*given)
            self.assertEqual([getattr(error, each) for each in names], given, name)
            self.assertIsInstance(str(error), str)

    def test_arguments_by_name(self):
        for name, names in ALL.items():
            given = {each: at for at, each in enumerate(names)}
            error = getattr(errors, name)(**given)
            self.assertEqual({each: getattr(error, each) for each in names}, given, name)

    def test_attributes_of_any_kind(self):
        for given in (0, -3, 10 ** 30, "", "a b", ("x", 1)):
            self.assertEqual(errors.InvalidTerm(given).text, given)
            self.assertEqual(errors.UnknownDeed(given).index, given)

    def test_wrong_numbers_of_arguments(self):
        for name, names in ALL.items():
            with self.assertRaises(TypeError):
                getattr(errors, name)(*["one too many"] * (len(names) + 1))
            if names:
                with self.assertRaises(TypeError):
                    getattr(errors, name)(*["one too few"] * (len(names) - 1))

    def test_caught_as_none_of_the_others(self):
        for name, names in ALL.items():
            error = getattr(errors, name)(*range(len(names)))
            for other in ALL:
                self.assertEqual(isinstance(error, getattr(errors, other)), name == other)

    def test_caught_by_its_bases_alone(self):
        for base, group in UNDER.items():
            for name, names in group.items():
                error = getattr(errors, name)(*range(len(names)))
                for other in UNDER:
                    self.assertEqual(isinstance(error, getattr(errors, other)), base == other)
                for caught in (getattr(errors, base), errors.PlanError, ValueError):
                    with self.assertRaises(caught):
                        raise error
                self.assertNotIsInstance(error, (LookupError, TypeError, UnicodeError))
