"""The names, arguments and kinds of values that the document's interface lists."""

import inspect
import unittest

from gaugemiss import alike, desk, dropping, gauges, notation, papers, rules, sharing, stretch, tying, worst

FUNCTIONS = {
    (sharing, "depth"): "(stretches, level)", (sharing, "shared"): "(stretches, need)",
    (sharing, "most_shared"): "(stretches)", (sharing, "least_liars"): "(stretches)",
    (sharing, "apart_lots"): "(stretches)", (sharing, "possible"): "(stretches, liars)",
    (sharing, "sure_liars"): "(stretches, liars)", (sharing, "sure_honest"): "(stretches, liars)",
    (sharing, "clashes"): "(stretches)",
    (notation, "read_rule"): "(text)", (notation, "write_gauge"): "(gauge)", (notation, "read_gauge"): "(line)",
    (notation, "write_rack"): "(rack)", (notation, "read_rack"): "(text)",
    (worst, "liar_lots"): "(rack, liars)", (worst, "worst_miss"): "(rack, rule, liars)",
    (worst, "worst_case"): "(rack, rule, liars, *, side='above', level=0, beyond=0)",
    (worst, "too_many"): "(rack, rule)", (worst, "order_rules"): "(rack, rules, liars)",
    (worst, "best_rule"): "(rack, rules, liars)", (worst, "tree_loss"): "(rack, rule, liars)",
    (worst, "miss_table"): "(rack, rule)",
    (papers, "make_paper"): "(rack, rule, liars, *, side='above')",
    (papers, "check_paper"): "(rack, rule, liars, paper, *, side='above')",
    (papers, "least_miss"): "(rack, liars)", (papers, "twin_worlds"): "(rack, liars)",
    (dropping, "honest_reach"): "(rack, kept, lot, name)", (dropping, "drop_case"): "(rack, kept, lot, name, limit)",
    (dropping, "drop_table"): "(rack, limit, lot)", (dropping, "drop_path"): "(rack, limit, lot, kept)",
    (dropping, "safe_limit"): "(rack, lot)", (dropping, "keeper_miss"): "(rack, limit, lot)",
    (alike, "differ"): "(rule, other)", (alike, "alike"): "(rule, other)",
    (tying, "tied"): "(first, second, gap)", (tying, "partner"): "(level, second, gap)",
    (tying, "shared_budget"): "(first, second, gap, liars)", (tying, "joint_clashes"): "(first, second, gap)",
    (tying, "agreed"): "(first, second, gap)",
}

CLASSES = {
    (stretch, "Stretch"): "(low, high)", (stretch, "Levels"): "(*stretches)", (gauges, "Gauge"): "(name, radius)",
    (gauges, "CoarseGauge"): "(name, radius, *, step)", (gauges, "LateGauge"): "(name, radius, *, late, pace)",
    (gauges, "LateCoarseGauge"): "(name, radius, *, step, late, pace)", (gauges, "Rack"): "(*gauges, together=())",
    (rules, "Leaf"): "(name)", (rules, "Rank"): "(place, *parts)", (rules, "Trim"): "(cut, *parts)",
    (rules, "Weigh"): "(weights, *parts)", (worst, "Miss"): "(above, below)",
    (worst, "Case"): "(level, readings, lot, reply)",
    (papers, "Twins"): "(readings, low_level, low_lot, high_level, high_lot)",
    (dropping, "Keeper"): "(rack, limit)", (desk, "Desk"): "(rack, start, *, liars=0, pace=0)",
    (desk, "SteadyDesk"): "(rack, start, *, liars=0, pace=0)", (alike, "Finder"): "(*rules)",
}

METHODS = {
    stretch.Stretch: {"grown": "(self, below, above)", "nearest": "(self, level)", "farthest": "(self, level)"},
    stretch.Levels: {"ends": "(self)", "hull": "(self)", "nearest": "(self, level)", "grown": "(self, below, above)"},
    gauges.Gauge: {"slack_below": "(self)", "slack_above": "(self)", "told": "(self, reading)",
                   "honest": "(self, reading, level)", "extremes": "(self, level)"},
    gauges.CoarseGauge: {"slack_above": "(self)"},
    gauges.LateGauge: {"slack_below": "(self)", "slack_above": "(self)"},
    gauges.Rack: {"names": "(self)", "gauge": "(self, name)", "faults": "(self)", "fault_count": "(self, names)",
                  "possible": "(self, readings, liars)", "fused": "(self, readings, liars)",
                  "blame": "(self, readings, level)"},
    rules.Rule: {"names": "(self)", "answer": "(self, readings)"},
    worst.Case: {"holds": "(self, rack, liars)"},
    dropping.Keeper: {"take": "(self, readings)", "kept": "(self)", "dropped": "(self)", "change": "(self, limit)"},
    desk.Desk: {"record": "(self, readings)", "at": "(self, tick)", "smoothed": "(self, tick)",
                "tell_late": "(self, name, tick, reading)", "allow": "(self, liars)", "undo": "(self)",
                "redo": "(self)", "trial": "(self, rows)", "story": "(self, level)", "walk": "(self)",
                "answer": "(self, rule)", "doubt": "(self, answer)", "wrong_now": "(self)"},
    alike.Finder: {"left": "(self)", "tell": "(self, readings, answer)", "question": "(self)"},
}

CLASS_METHODS = {stretch.Stretch: {"around": "(level, radius)"}, stretch.Levels: {"of": "(stretches)"},
                 gauges.Rack: {"of": "(gauges, together=())"},
                 rules.Rank: {"least": "(*parts)", "greatest": "(*parts)", "median": "(*parts)",
                              "of": "(place, parts)"},
                 rules.Trim: {"of": "(cut, parts)"}, rules.Weigh: {"of": "(weights, parts)"},
                 alike.Finder: {"of": "(rules)"}}

PROPERTIES = {stretch.Stretch: ["width", "middle"], stretch.Levels: ["lowest", "highest", "size"],
              gauges.Gauge: ["width"], worst.Miss: ["worst"], worst.Case: ["miss"], papers.Twins: ["gap"],
              dropping.Keeper: ["limit"], desk.Desk: ["now", "allowed"]}

OPERATORS = {
    stretch.Stretch: ["contains", "eq", "add", "sub", "neg", "and", "or", "repr", "str"],
    stretch.Levels: ["contains", "eq", "and", "or", "sub", "add", "getitem", "len", "bool", "repr", "str", "iter"],
    gauges.Rack: ["len", "contains"], rules.Rule: ["eq", "str"], worst.Miss: ["eq"], desk.Desk: ["len"],
}


class Interface(unittest.TestCase):
    def test_functions_and_classes_are_defined_where_they_are_listed(self):
        for (module, name), arguments in [*FUNCTIONS.items(), *CLASSES.items()]:
            found = getattr(module, name)
            self.assertEqual(found.__module__, module.__name__)
            self.assertEqual(str(inspect.signature(found)), arguments, name)

    def test_methods_are_defined_in_their_class(self):
        for kind, methods in METHODS.items():
            for name, arguments in methods.items():
                self.assertEqual(str(inspect.signature(vars(kind)[name])), arguments, (kind, name))

    def test_class_methods_and_static_methods(self):
        for kind, methods in CLASS_METHODS.items():
            for name, arguments in methods.items():
                self.assertIsInstance(vars(kind)[name], classmethod)
                self.assertEqual(str(inspect.signature(getattr(kind, name))), arguments, (kind, name))
        self.assertIsInstance(vars(stretch.Levels)["none"], staticmethod)
        self.assertEqual(str(inspect.signature(stretch.Levels.none)), "()")

    def test_the_kinds_of_rules(self):
        for kind in (rules.Leaf, rules.Rank, rules.Trim, rules.Weigh):
            self.assertEqual(kind.__bases__, (rules.Rule,))
        self.assertEqual(rules.Rule.__module__, "gaugemiss.rules")

    def test_properties_and_class_values(self):
        for kind, names in PROPERTIES.items():
            for name in names:
                self.assertIsInstance(vars(kind)[name], property)
        self.assertEqual(vars(gauges.Gauge)["LONGEST"], 12)
        for kind, name in ((dropping.Keeper, "limit"), (desk.Desk, "allowed")):
            self.assertIsNotNone(vars(kind)[name].fset)

    def test_the_steady_desk_derives_from_the_desk(self):
        self.assertEqual(desk.SteadyDesk.__bases__, (desk.Desk,))

    def test_operators_are_defined_in_their_class(self):
        for kind, names in OPERATORS.items():
            for name in names:
                self.assertIn(f"__{name}__", vars(kind))


if __name__ == "__main__":
    unittest.main()
