"""Points 7 to 9, and the interface's list of the errors."""

import unittest

from leastlooks import errors
from tests.samples import DEEP

LISTED = {
    "BadInput": ("given",), "BadPattern": ("given",), "BadTable": ("given",), "BadCount": ("given",),
    "BadPosition": ("given",), "BadBit": ("given",), "BadBlock": ("given",), "BadOrder": ("given",),
    "UnlikeSizes": ("first", "second"), "TooMany": ("count",), "BadFormula": ("at",), "BadSum": ("given",),
    "NotAnswers": ("text",), "BadTree": ("given",), "BadText": ("at",), "BadPrices": ("given",),
    "BadChances": ("given",), "BadMixture": ("given",), "BadTold": ("given",), "BadFact": ("given",),
    "BadNodes": ("given",), "Looked": ("position",), "NotSettled": ("pattern",), "NoneLeft": (),
    "NothingToUndo": (), "NothingToRedo": (),
}

VALUES = [None, True, 0, -1, 10 ** 39, "", "0-1", [], [1, [2]], (1, [2]), {"a": [1]}, DEEP, object()]


class Errors(unittest.TestCase):
    def test_all_classes_are_there_and_no_others(self):
        found = [name for name, one in vars(errors).items() if isinstance(one, type)]
        self.assertEqual(sorted(found), sorted([*LISTED, "LooksError"]))

    def test_each_is_directly_below_the_common_one(self):
        self.assertEqual(errors.LooksError.__bases__, (ValueError,))
        for name in LISTED:
            self.assertEqual(getattr(errors, name).__bases__, (errors.LooksError,), name)

    def test_none_is_one_of_the_others(self):
        for name, attributes in LISTED.items():
            error = getattr(errors, name)(*attributes)
            above = [other for other in LISTED if isinstance(error, getattr(errors, other))]
            self.assertEqual(above, [name])
            self.assertIsInstance(error, errors.LooksError)
            self.assertIsInstance(error, ValueError)

    def test_the_attributes_are_the_very_values(self):
        for name, attributes in LISTED.items():
            for value in VALUES:
                given = [value if at == 0 else [value] for at in range(len(attributes))]
                error = getattr(errors, name)(*given)
                self.assertEqual(sorted(vars(error)), sorted(attributes))
                for attribute, one in zip(attributes, given):
                    self.assertIs(getattr(error, attribute), one)

    def test_the_attributes_may_be_passed_by_name(self):
        for name, attributes in LISTED.items():
            error = getattr(errors, name)(**{attribute: [attribute] for attribute in attributes})
            for attribute in attributes:
                self.assertEqual(getattr(error, attribute), [attribute])

    def test_an_error_can_be_raised_and_caught(self):
        for name, attributes in LISTED.items():
            made = getattr(errors, name)(*attributes)
            with self.assertRaises(errors.LooksError) as caught:
                raise made
            self.assertIs(caught.exception, made)
