"""Point 5."""

import inspect
import unittest

from gaugemiss import errors
from gaugemiss.alike import Finder, differ
from gaugemiss.desk import Desk
from gaugemiss.dropping import Keeper, drop_case
from gaugemiss.gauges import Gauge, Rack
from gaugemiss.notation import read_rack, read_rule
from gaugemiss.papers import check_paper, make_paper, twin_worlds
from gaugemiss.rules import Leaf, Rank, Trim
from gaugemiss.sharing import possible, shared
from gaugemiss.stretch import Levels, Stretch
from gaugemiss.tying import partner
from tests.checks import Checks

ATTRIBUTES = {
    "BadStretch": ["low", "high"], "NoLevel": [], "Apart": ["first", "second"], "BadNeed": ["number"],
    "BadLiars": ["number"], "BadGauge": ["name"], "DuplicateGauge": ["name"], "UnknownGauge": ["name"],
    "MissingReading": ["name"], "BadRule": ["kind"], "BadText": ["text"], "BadLine": ["line"],
    "SharedFault": ["name"], "BadPaper": ["row"], "NoBound": [], "BadLimit": ["number"], "NoCase": ["lot"],
    "NoTruth": ["tick"], "NoTick": ["tick"], "NotPossible": ["level"], "NothingToUndo": [], "NothingToRedo": [],
    "NotRanked": [], "NoRule": ["reply"],
}

VALUES = {
    "low": 7, "high": -7, "first": (1, 2), "second": (4, 5), "number": -3, "name": "a", "kind": "rank", "text": "x (",
    "line": 4, "row": 2, "lot": ["a", "b"], "tick": 6, "level": -1, "reply": 9,
}


class ErrorClasses(Checks):
    def test_the_base_class_derives_from_value_error(self):
        self.assertEqual(errors.GaugeError.__bases__, (ValueError,))

    def test_the_module_has_these_classes_only(self):
        found = [name for name, _ in inspect.getmembers(errors, inspect.isclass)]
        self.assertEqual(found, sorted([*ATTRIBUTES, "GaugeError"]))

    def test_each_class_derives_directly_from_the_base_class_but_apart(self):
        for name in ATTRIBUTES:
            base = errors.NoLevel if name == "Apart" else errors.GaugeError
            self.assertEqual(getattr(errors, name).__bases__, (base,), name)

    def test_each_error_is_a_gauge_error_and_a_value_error(self):
        for name, attributes in ATTRIBUTES.items():
            made = getattr(errors, name)(*[VALUES[each] for each in attributes])
            self.assertIsInstance(made, errors.GaugeError)
            self.assertIsInstance(made, ValueError)
            self.assertIsInstance(str(made), str)

    def test_attributes_by_position_and_by_name(self):
        for name, attributes in ATTRIBUTES.items():
            told = {each: VALUES[each] for each in attributes}
            self.assertEqual(vars(getattr(errors, name)(*told.values())), told, name)
            self.assertEqual(vars(getattr(errors, name)(**told)), told, name)

    def test_attributes_are_needed(self):
        for name, attributes in ATTRIBUTES.items():
            if attributes:
                self.assertRaises(TypeError, getattr(errors, name))
            self.assertRaises(TypeError, getattr(errors, name), *[VALUES[each] for each in attributes], 1)

    def test_a_name_that_is_no_text_is_kept_as_it_is(self):
        for name in (None, 12, b"a", ["a"], ("a",)):
            self.assertEqual(errors.BadGauge(name).name, name)

    def test_a_lot_is_copied(self):
        lot = ["a"]
        made = errors.NoCase(lot)
        lot.append("b")
        self.assertEqual(made.lot, ["a"])
        made.lot.append("c")
        self.assertEqual(lot, ["a", "b"])


def pair(together=()):
    return Rack(Gauge("a", 1), Gauge("b", 1), together=together)


def desk():
    return Desk(pair(), Stretch(0, 9))


CALLS = {
    "BadStretch": (lambda: Stretch(3, 2), {"low": 3, "high": 2}), "NoLevel": (lambda: Levels().lowest, {}),
    "Apart": (lambda: Stretch(0, 1) & Stretch(3, 4), {"first": (0, 1), "second": (3, 4)}),
    "BadNeed": (lambda: shared([], 0), {"number": 0}), "BadLiars": (lambda: possible([], 0), {"number": 0}),
    "BadGauge": (lambda: Gauge("A", 1), {"name": "A"}),
    "DuplicateGauge": (lambda: Rank(0, Leaf("a"), Leaf("a")), {"name": "a"}),
    "UnknownGauge": (lambda: pair().gauge("x"), {"name": "x"}),
    "MissingReading": (lambda: Leaf("a").answer({}), {"name": "a"}), "BadRule": (lambda: Rank(0), {"kind": "rank"}),
    "BadText": (lambda: read_rule("A"), {"text": "A"}), "BadLine": (lambda: read_rack("a 1\nb"), {"line": 2}),
    "SharedFault": (lambda: make_paper(pair((("a", "b"),)), Leaf("a"), 0), {"name": "a"}),
    "BadPaper": (lambda: check_paper(pair(), Leaf("a"), 0, []), {"row": 0}),
    "NoBound": (lambda: twin_worlds(pair(), 1), {}), "BadLimit": (lambda: Keeper(pair(), -1), {"number": -1}),
    "NoCase": (lambda: drop_case(pair(), ["a"], [], "a", 0), {"lot": ["a"]}),
    "NoTruth": (lambda: desk().record({"a": 99}), {"tick": 0}), "NoTick": (lambda: desk().at(0), {"tick": 0}),
    "NotPossible": (lambda: partner(5, Levels(), Stretch(0, 1)), {"level": 5}),
    "NothingToUndo": (lambda: desk().undo(), {}), "NothingToRedo": (lambda: desk().redo(), {}),
    "NotRanked": (lambda: differ(Trim(0, Leaf("a")), Leaf("a")), {}),
    "NoRule": (lambda: Finder().tell({}, 5), {"reply": 5}),
}


class Raised(Checks):
    def test_there_is_a_call_for_each_of_the_24_errors(self):
        self.assertEqual([sorted(CALLS), len(CALLS)], [sorted(ATTRIBUTES), 24])

    def test_each_call_raises_its_error_only(self):
        kinds = [getattr(errors, name) for name in ATTRIBUTES]
        for name, (call, told) in CALLS.items():
            own = getattr(errors, name)
            self.refuses(own, told, call)
            with self.assertRaises(ValueError) as caught:
                call()
            self.assertIsInstance(caught.exception, errors.GaugeError)
            bases = [own, errors.NoLevel] if name == "Apart" else [own]
            self.assertEqual([kind for kind in kinds if isinstance(caught.exception, kind)],
                             [kind for kind in kinds if kind in bases], name)


if __name__ == "__main__":
    unittest.main()
