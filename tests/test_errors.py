"""The errors: their families, their parameters and their attributes."""

import inspect
import unittest

from tests.samples import EqualToAll
from wornsteps import errors

VALUE, POSITION, PAIR = ("value",), ("position",), ("one", "other")

FAMILIES = {
    "StairError": (ValueError, {
        "InvalidSteps": VALUE, "InvalidJumps": POSITION, "InvalidJump": VALUE, "InvalidLengths": POSITION,
        "InvalidWay": VALUE, "InvalidThing": VALUE, "InvalidScore": VALUE, "InvalidWays": VALUE,
        "InvalidCount": VALUE, "InvalidFlow": VALUE, "InvalidRun": VALUE, "InvalidMark": VALUE,
        "InvalidMarks": VALUE, "InvalidPrices": VALUE, "InvalidBounds": POSITION, "InvalidMoves": VALUE,
        "InvalidEnds": POSITION, "InvalidHabits": VALUE, "InvalidShares": VALUE, "InvalidText": ("line",),
        "InvalidClaim": VALUE, "InvalidCommand": VALUE}),
    "MissingError": (LookupError, {"UnknownWay": VALUE, "NoSuch": VALUE}),
    "StateError": (RuntimeError, {
        "OtherSteps": PAIR, "OtherStair": PAIR, "NotTogether": VALUE, "NothingFits": (), "Endless": (),
        "NotBetween": ("least", "greatest"), "Unmeeting": VALUE, "NothingToUndo": (), "CommandFailed": POSITION}),
    "LimitError": (ArithmeticError, {"TooMany": ("what", "limit")}),
}


def all_errors():
    """Rows of a class that has parameters or none, its family's class, and its parameters."""
    rows = []
    for family, (_, members) in FAMILIES.items():
        for name, names in members.items():
            rows.append((getattr(errors, name), getattr(errors, family), names))
    return rows


def any_values():
    return [None, True, False, 0, -5, 10 ** 29, "", "feet", b"x", [], [[1]], (), (0, 1), {}, {1: (2, 3)}, {4},
            object(), EqualToAll(), ValueError("x"), ValueError, len, ...]


class Families(unittest.TestCase):
    def test_each_family_is_a_direct_subclass(self):
        for family, (builtin, _) in FAMILIES.items():
            self.assertEqual(getattr(errors, family).__bases__, (builtin,))

    def test_each_error_is_a_direct_subclass_of_its_family_and_of_no_other_class(self):
        for error, family, _ in all_errors():
            self.assertEqual(error.__bases__, (family,), error)

    def test_there_are_no_other_classes(self):
        names = [name for name, value in vars(errors).items() if inspect.isclass(value)]
        expected = list(FAMILIES) + [name for _, members in FAMILIES.values() for name in members]
        self.assertEqual(sorted(names), sorted(expected))

    def test_each_class_is_defined_in_this_file(self):
        for error, family, _ in all_errors():
            self.assertEqual((error.__module__, family.__module__), ("wornsteps.errors", "wornsteps.errors"))

    def test_families_can_be_raised_themselves(self):
        for family, (builtin, _) in FAMILIES.items():
            with self.assertRaises(builtin):
                raise getattr(errors, family)()


class Attributes(unittest.TestCase):
    def test_by_position(self):
        for error, _, names in all_errors():
            for k, value in enumerate(any_values()):
                values = [value, any_values()[-k]][:len(names)]
                made = error(*values)
                for name, expected in zip(names, values):
                    self.assertIs(getattr(made, name), expected)

    def test_by_name(self):
        for error, _, names in all_errors():
            for k, value in enumerate(any_values()):
                values = dict(zip(names, [value, any_values()[-k]]))
                made = error(**values)
                for name in names:
                    self.assertIs(getattr(made, name), values[name])

    def test_names_in_any_sequence(self):
        self.assertEqual(vars(errors.NotBetween(greatest=5, least=2)), {"least": 2, "greatest": 5})
        self.assertEqual(vars(errors.TooMany(limit=40, what="jumps")), {"what": "jumps", "limit": 40})
        self.assertEqual(vars(errors.OtherSteps(other=1, one=2)), {"one": 2, "other": 1})

    def test_each_constructor_has_just_the_parameters_that_are_listed(self):
        for error, _, names in all_errors():
            if names:
                found = list(inspect.signature(vars(error)["__init__"]).parameters)
                self.assertEqual(found, ["self", *names], error)
                with self.assertRaises(TypeError):
                    error()
                with self.assertRaises(TypeError):
                    error(*names, "more")

    def test_each_error_has_just_the_attributes_that_are_listed(self):
        for error, _, names in all_errors():
            self.assertEqual(list(vars(error(*names))), list(names))

    def test_two_errors_keep_their_own_values(self):
        for error, _, names in all_errors():
            first = error(*[f"first {name}" for name in names])
            second = error(**{name: f"second {name}" for name in names})
            for name in names:
                self.assertEqual(getattr(first, name), f"first {name}")
                self.assertEqual(getattr(second, name), f"second {name}")


class Raising(unittest.TestCase):
    def test_each_error_is_caught_as_itself_its_family_and_the_class_of_python(self):
        builtins = {getattr(errors, family): builtin for family, (builtin, _) in FAMILIES.items()}
        for error, family, names in all_errors():
            for caught in (error, family, builtins[family], Exception):
                made = error(*names)
                try:
                    raise made
                except caught as found:
                    self.assertIs(found, made)

    def test_no_error_is_caught_as_one_of_another_family(self):
        families = [getattr(errors, family) for family in FAMILIES]
        for error, family, names in all_errors():
            for other in families:
                self.assertEqual(isinstance(error(*names), other), other is family)


if __name__ == "__main__":
    unittest.main()
