"""The errors: their bases, attributes and constructors."""

import unittest

from whichpaces import errors

BASES = {
    "PaceError": ValueError,
    "MissingError": LookupError,
    "StateError": RuntimeError,
    "LimitError": ArithmeticError,
}
ATTRIBUTES = {
    "value": (
        "InvalidInteger InvalidRatio InvalidPolynomial InvalidNumber InvalidMix InvalidMachine InvalidPlace "
        "InvalidTable InvalidCone InvalidRow InvalidRounds InvalidText InvalidMany InvalidPosition InvalidCommand "
        "InvalidPaper InvalidQuestion UnfitAnswer UnfitThing"
    ),
    "position": "BadText CommandFailed",
    "name": "TakenName UnfitSort",
    "label": "TakenNote",
}
STATES = (
    "DividedByNought IsNought NoHub NoMachine NoRoots NotAbove NotAlone NotBeyond NotMonic NotOne NotTogether "
    "NothingToRedo NothingToUndo"
)
ANY_VALUES = [None, 0, True, "", "word", (), [1, [2]], {"a": 1}, object(), ValueError("x"), int]


class Errors(unittest.TestCase):
    def check_one(self, name, base, attribute):
        made = getattr(errors, name)
        self.assertEqual(made.__bases__, (base,))
        for value in ANY_VALUES:
            self.assertIs(getattr(made(value), attribute), value)
            self.assertIs(getattr(made(**{attribute: value}), attribute), value)
        for args in [(), (1, 2)]:
            with self.assertRaises(TypeError):
                made(*args)

    def test_heads_are_of_pythons_own(self):
        for name, base in BASES.items():
            self.assertEqual(getattr(errors, name).__bases__, (base,))

    def test_wrong_values(self):
        for attribute, names in ATTRIBUTES.items():
            for name in names.split():
                self.check_one(name, errors.PaceError, attribute)

    def test_missing(self):
        self.check_one("UnknownName", errors.MissingError, "name")
        self.check_one("UnknownNote", errors.MissingError, "label")

    def test_states(self):
        for name in STATES.split():
            made = getattr(errors, name)
            self.assertEqual(made.__bases__, (errors.StateError,))
            self.assertIsInstance(made(), RuntimeError)

    def test_limits(self):
        self.assertEqual(errors.TooMany.__bases__, (errors.LimitError,))
        for what in ANY_VALUES:
            for limit in ANY_VALUES:
                self.assertIs(errors.TooMany(what, limit).what, what)
                self.assertIs(errors.TooMany(what=what, limit=limit).limit, limit)

    def test_they_can_be_raised_and_caught_by_their_heads(self):
        with self.assertRaises(ValueError):
            raise errors.BadText(3)
        with self.assertRaises(LookupError):
            raise errors.UnknownName("a")
        with self.assertRaises(RuntimeError):
            raise errors.NotMonic()
        with self.assertRaises(ArithmeticError):
            raise errors.TooMany("degree", 12)


if __name__ == "__main__":
    unittest.main()
