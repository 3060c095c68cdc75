"""Point [4] and the interface of errors.py."""

import unittest

from helpers import any_values
from keyedmoves import errors

ATTRIBUTES = {
    "NoElement": "key", "BadOperations": "value", "Impossible": "index", "DifferentRoots": None,
    "NoNumber": "number", "NotKept": "value", "Conflict": "value", "NotPatch": "value", "TooDear": "key",
    "BadTree": "value", "BadCosts": "value", "Root": "key", "NotFocused": "key", "Lost": "value",
    "NothingToUndo": None, "BadText": "line", "BadLine": "line",
}


class Errors(unittest.TestCase):
    def test_base_classes(self):
        self.assertEqual(errors.KeyedError.__bases__, (ValueError,))
        for name in ATTRIBUTES:
            self.assertEqual(getattr(errors, name).__bases__, (errors.KeyedError,), name)

    def test_no_other_errors(self):
        classes = [name for name, value in vars(errors).items() if isinstance(value, type)]
        self.assertEqual(sorted(classes), sorted([*ATTRIBUTES, "KeyedError"]))

    def test_any_value_by_position_and_by_name(self):
        for name, attribute in ATTRIBUTES.items():
            if attribute is None:
                continue
            for value in any_values():
                by_position = getattr(errors, name)(value)
                by_name = getattr(errors, name)(**{attribute: value})
                for error in (by_position, by_name):
                    self.assertEqual(list(vars(error)), [attribute])
                    self.assertIs(getattr(error, attribute), value)

    def test_without_arguments(self):
        for name, attribute in ATTRIBUTES.items():
            if attribute is None:
                self.assertEqual(vars(getattr(errors, name)()), {})
                with self.assertRaises(TypeError):
                    getattr(errors, name)(key="a")
            else:
                with self.assertRaises(TypeError):
                    getattr(errors, name)()

    def test_raised_and_caught(self):
        for name, attribute in ATTRIBUTES.items():
            with self.assertRaises(errors.KeyedError):
                raise getattr(errors, name)(*([] if attribute is None else [[1]]))


if __name__ == "__main__":
    unittest.main()
