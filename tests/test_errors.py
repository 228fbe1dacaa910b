"""Point 5."""

import inspect
import unittest

from gaugemiss import errors
from tests.checks import Checks

ATTRIBUTES = {
    "BadStretch": ["low", "high"], "NoLevel": [], "Apart": ["first", "second"], "BadNeed": ["number"],
    "BadLiars": ["number"], "BadGauge": ["name"], "DuplicateGauge": ["name"], "UnknownGauge": ["name"],
    "MissingReading": ["name"], "BadRule": ["kind"], "BadText": ["text"], "BadLine": ["line"],
    "SharedFault": ["name"], "BadPaper": ["row"], "NoBound": [], "BadLimit": ["number"], "NoCase": ["lot"],
    "NoTruth": ["tick"], "NoTick": ["tick"], "NotPossible": ["level"], "NothingToUndo": [], "NothingToRedo": [],
    "NotRanked": [], "NoRule": ["reply"],
}

VALUES = {
    "low": 7, "high": -7, "first": (1, 2), "second": (4, 5), "number": -3, "name": "a", "kind": "rank", "text": "x (",
    "line": 4, "row": 2, "lot": ["a", "b"], "tick": 6, "level": -1, "reply": 9,
}


class ErrorClasses(Checks):
    def test_the_base_class_derives_from_value_error(self):
        self.assertEqual(errors.GaugeError.__bases__, (ValueError,))

    def test_the_module_has_these_classes_only(self):
        found = [name for name, _ in inspect.getmembers(errors, inspect.isclass)]
        self.assertEqual(found, sorted([*ATTRIBUTES, "GaugeError"]))

    def test_each_class_derives_directly_from_the_base_class_but_apart(self):
        for name in ATTRIBUTES:
            base = errors.NoLevel if name == "Apart" else errors.GaugeError
            self.assertEqual(getattr(errors, name).__bases__, (base,), name)

    def test_each_error_is_a_gauge_error_and_a_value_error(self):
        for name, attributes in ATTRIBUTES.items():
            made = getattr(errors, name)(*[VALUES[each] for each in attributes])
            self.assertIsInstance(made, errors.GaugeError)
            self.assertIsInstance(made, ValueError)
            self.assertIsInstance(str(made), str)

    def test_attributes_by_position_and_by_name(self):
        for name, attributes in ATTRIBUTES.items():
            told = {each: VALUES[each] for each in attributes}
            self.assertEqual(vars(getattr(errors, name)(*told.values())), told, name)
            self.assertEqual(vars(getattr(errors, name)(**told)), told, name)

    def test_attributes_are_needed(self):
        for name, attributes in ATTRIBUTES.items():
            if attributes:
                self.assertRaises(TypeError, getattr(errors, name))
            self.assertRaises(TypeError, getattr(errors, name), *[VALUES[each] for each in attributes], 1)

    def test_a_name_that_is_no_text_is_kept_as_it_is(self):
        for name in (None, 12, b"a", ["a"], ("a",)):
            self.assertEqual(errors.BadGauge(name).name, name)

    def test_a_lot_is_copied(self):
        lot = ["a"]
        made = errors.NoCase(lot)
        lot.append("b")
        self.assertEqual(made.lot, ["a"])
        made.lot.append("c")
        self.assertEqual(lot, ["a", "b"])


if __name__ == "__main__":
    unittest.main()
