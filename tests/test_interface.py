"""The names, arguments and kinds of values that the document's interface lists."""

import inspect
import unittest

from gaugemiss import gauges, sharing, stretch

FUNCTIONS = {
    (sharing, "depth"): "(stretches, level)", (sharing, "shared"): "(stretches, need)",
    (sharing, "most_shared"): "(stretches)", (sharing, "least_liars"): "(stretches)",
    (sharing, "apart_lots"): "(stretches)", (sharing, "possible"): "(stretches, liars)",
    (sharing, "sure_liars"): "(stretches, liars)", (sharing, "sure_honest"): "(stretches, liars)",
    (sharing, "clashes"): "(stretches)",
}

CLASSES = {
    (stretch, "Stretch"): "(low, high)", (stretch, "Levels"): "(*stretches)", (gauges, "Gauge"): "(name, radius)",
    (gauges, "CoarseGauge"): "(name, radius, *, step)", (gauges, "LateGauge"): "(name, radius, *, late, pace)",
    (gauges, "LateCoarseGauge"): "(name, radius, *, step, late, pace)", (gauges, "Rack"): "(*gauges, together=())",
}

METHODS = {
    stretch.Stretch: {"grown": "(self, below, above)", "nearest": "(self, level)", "farthest": "(self, level)"},
    stretch.Levels: {"ends": "(self)", "hull": "(self)", "nearest": "(self, level)", "grown": "(self, below, above)"},
    gauges.Gauge: {"slack_below": "(self)", "slack_above": "(self)", "told": "(self, reading)",
                   "honest": "(self, reading, level)", "extremes": "(self, level)"},
    gauges.CoarseGauge: {"slack_above": "(self)"},
    gauges.LateGauge: {"slack_below": "(self)", "slack_above": "(self)"},
    gauges.Rack: {"names": "(self)", "gauge": "(self, name)", "faults": "(self)", "fault_count": "(self, names)",
                  "possible": "(self, readings, liars)", "fused": "(self, readings, liars)",
                  "blame": "(self, readings, level)"},
}

CLASS_METHODS = {stretch.Stretch: {"around": "(level, radius)"}, stretch.Levels: {"of": "(stretches)"},
                 gauges.Rack: {"of": "(gauges, together=())"}}

PROPERTIES = {stretch.Stretch: ["width", "middle"], stretch.Levels: ["lowest", "highest", "size"],
              gauges.Gauge: ["width"]}

OPERATORS = {
    stretch.Stretch: ["contains", "eq", "add", "sub", "neg", "and", "or", "repr", "str"],
    stretch.Levels: ["contains", "eq", "and", "or", "sub", "add", "getitem", "len", "bool", "repr", "str", "iter"],
    gauges.Rack: ["len", "contains"],
}


class Interface(unittest.TestCase):
    def test_functions_and_classes_are_defined_where_they_are_listed(self):
        for (module, name), arguments in [*FUNCTIONS.items(), *CLASSES.items()]:
            found = getattr(module, name)
            self.assertEqual(found.__module__, module.__name__)
            self.assertEqual(str(inspect.signature(found)), arguments, name)

    def test_methods_are_defined_in_their_class(self):
        for kind, methods in METHODS.items():
            for name, arguments in methods.items():
                self.assertEqual(str(inspect.signature(vars(kind)[name])), arguments, (kind, name))

    def test_class_methods_and_static_methods(self):
        for kind, methods in CLASS_METHODS.items():
            for name, arguments in methods.items():
                self.assertIsInstance(vars(kind)[name], classmethod)
                self.assertEqual(str(inspect.signature(getattr(kind, name))), arguments, (kind, name))
        self.assertIsInstance(vars(stretch.Levels)["none"], staticmethod)
        self.assertEqual(str(inspect.signature(stretch.Levels.none)), "()")

    def test_properties_and_class_values(self):
        for kind, names in PROPERTIES.items():
            for name in names:
                self.assertIsInstance(vars(kind)[name], property)
        self.assertEqual(vars(gauges.Gauge)["LONGEST"], 12)

    def test_operators_are_defined_in_their_class(self):
        for kind, names in OPERATORS.items():
            for name in names:
                self.assertIn(f"__{name}__", vars(kind))


if __name__ == "__main__":
    unittest.main()
