"""Point 3."""

import copy
import unittest

from gaugemiss import dropping, papers, sharing, tying, worst
from gaugemiss.alike import Finder, alike, differ
from gaugemiss.desk import Desk, SteadyDesk
from gaugemiss.dropping import Keeper
from gaugemiss.errors import GaugeError, NoCase
from gaugemiss.gauges import Gauge, Rack
from gaugemiss.notation import read_rack, read_rule, write_rack
from gaugemiss.papers import Twins
from gaugemiss.rules import Leaf, Rank, Trim, Weigh
from gaugemiss.stretch import Levels, Stretch
from gaugemiss.worst import Case
from tests.checks import Checks, stretches


def small_rack(together=()):
    return Rack(Gauge("a", 1), Gauge("b", 4), Gauge("c", 2), together=together)


def shown(rack):
    return write_rack(rack), rack.names(), rack.faults()


class Arguments(Checks):
    def test_the_functions_of_sharing_leave_the_list_as_it_was(self):
        ends = [(5, 9), (0, 4), (2, 6), (0, 4), (30, 31)]
        calls = [lambda some: sharing.depth(some, 3), lambda some: sharing.shared(some, 2), sharing.most_shared,
                 sharing.least_liars, sharing.apart_lots, lambda some: sharing.possible(some, 2),
                 lambda some: sharing.sure_liars(some, 2), lambda some: sharing.sure_honest(some, 2), sharing.clashes]
        for call in calls:
            some = stretches(*ends)
            call(some)
            self.assertEqual([(each.low, each.high) for each in some], ends)

    def test_levels_leave_the_list_as_it_was(self):
        some = stretches((5, 9), (0, 4), (2, 6))
        Levels.of(some)
        self.assertEqual([(each.low, each.high) for each in some], [(5, 9), (0, 4), (2, 6)])

    def test_racks_leave_lists_and_dicts_as_they_were(self):
        given = [Gauge("b", 1), Gauge("a", 2), Gauge("c", 3)]
        rack = Rack.of(given, together=(("c", "b"),))
        self.assertEqual([each.name for each in given], ["b", "a", "c"])
        readings, names = {"c": 9, "b": 8, "a": 50}, ["c", "a", "c"]
        rack.possible(readings, 1)
        rack.fused(readings, 1)
        rack.blame(readings, 8)
        rack.fault_count(names)
        self.assertEqual(list(readings.items()), [("c", 9), ("b", 8), ("a", 50)])
        self.assertEqual(names, ["c", "a", "c"])

    def test_calls_that_raise_leave_everything_as_it_was(self):
        rack, levels = Rack(Gauge("b", 1), Gauge("a", 2), together=(("b", "a"),)), Levels(Stretch(1, 2))
        readings, stretch = {"a": 4, "x": 5}, Stretch(1, 2)
        before = copy.deepcopy([rack.names(), rack.faults(), readings, levels.ends(), vars(stretch)])
        calls = [lambda: rack.possible(readings, 0), lambda: rack.fused(readings, 0), lambda: rack.blame(readings, 0),
                 lambda: rack.fault_count(["a", "x"]), lambda: rack.gauge("x"), lambda: levels.grown(0, -1),
                 lambda: stretch.grown(0, -1), lambda: stretch & Stretch(5, 6), lambda: stretch.around(0, -1)]
        for call in calls:
            self.assertRaises(GaugeError, call)
        self.assertEqual([rack.names(), rack.faults(), readings, levels.ends(), vars(stretch)], before)

    def test_rules_leave_lists_and_dicts_as_they_were(self):
        parts, weights = [Leaf("c"), Leaf("a"), Leaf("b")], [0, 5, 1]
        readings = {"c": 9, "x": 0, "b": 8, "a": 50}
        for rule in (Rank.of(1, parts), Trim.of(1, parts), Weigh.of(weights, parts), Rank.median(*parts)):
            rule.answer(readings)
        self.assertEqual([[str(part) for part in parts], weights], [["c", "a", "b"], [0, 5, 1]])
        self.assertEqual(list(readings.items()), [("c", 9), ("x", 0), ("b", 8), ("a", 50)])

    def test_worst_and_papers_leave_racks_rules_and_lists_as_they_were(self):
        rack, rule = small_rack(), read_rule("trim 1 (c, weigh 1 2 (b, x), a)")
        rules = [read_rule("rank 1 (b, a)"), Leaf("c"), Leaf("a")]
        known = read_rule("trim 0 (c, weigh 1 2 (b, a))")
        paper = papers.make_paper(rack, known, 1)
        before = copy.deepcopy([shown(rack), str(rule), str(known), [str(each) for each in rules], paper])
        calls = [lambda: worst.worst_miss(rack, known, 1), lambda: worst.worst_case(rack, known, 1, beyond=9),
                 lambda: worst.too_many(rack, known), lambda: worst.order_rules(rack, rules, 1),
                 lambda: worst.best_rule(rack, rules, 0), lambda: worst.tree_loss(rack, known, 0),
                 lambda: worst.miss_table(rack, known), lambda: list(worst.liar_lots(rack, 2)),
                 lambda: papers.check_paper(rack, known, 1, paper), lambda: papers.least_miss(rack, 1),
                 lambda: papers.twin_worlds(rack, 1)]
        wrong = [lambda: worst.worst_miss(rack, rule, 1), lambda: worst.worst_case(rack, known, 4),
                 lambda: worst.too_many(rack, rule), lambda: worst.order_rules(rack, [*rules, rule], 1),
                 lambda: worst.tree_loss(rack, known, -1), lambda: worst.miss_table(rack, rule),
                 lambda: papers.make_paper(rack, known, 4), lambda: papers.check_paper(rack, known, 2, paper),
                 lambda: papers.least_miss(rack, 4), lambda: papers.twin_worlds(rack, 2),
                 lambda: rule.answer({"c": 1, "b": 2})]
        for call in calls:
            call()
        for call in wrong:
            self.assertRaises(GaugeError, call)
        self.assertEqual([shown(rack), str(rule), str(known), [str(each) for each in rules], paper], before)

    def test_dropping_leaves_racks_lists_and_dicts_as_they_were(self):
        rack, kept, lot, other = small_rack((("a", "b"),)), ["c", "a", "b"], ["b"], ["b", "x", "a"]
        readings = {"c": 9, "x": 0, "a": 1, "b": 2}
        before = copy.deepcopy([shown(rack), kept, lot, other, readings])
        calls = [lambda: dropping.honest_reach(rack, kept, lot, "a"),
                 lambda: dropping.drop_case(rack, kept, lot, "a", 0),
                 lambda: dropping.drop_case(rack, kept, lot, "b", 0), lambda: dropping.drop_table(rack, 0, lot),
                 lambda: dropping.drop_path(rack, 0, lot, ["c"]), lambda: dropping.drop_path(rack, 0, lot, kept),
                 lambda: dropping.safe_limit(rack, lot), lambda: dropping.keeper_miss(rack, 0, lot),
                 lambda: Keeper(rack, 0).take(readings)]
        wrong = [lambda: dropping.honest_reach(rack, kept, lot, "x"),
                 lambda: dropping.drop_case(rack, kept, lot, "x", 0),
                 lambda: dropping.drop_case(rack, kept, lot, "a", 99), lambda: dropping.drop_path(rack, 0, lot, other),
                 lambda: dropping.drop_path(rack, 99, [], ["c"]), lambda: Keeper(rack, -1),
                 lambda: Keeper(rack, 0).take({})]
        for call in calls:
            call()
        for call in wrong:
            self.assertRaises(GaugeError, call)
        self.assertEqual([shown(rack), kept, lot, other, readings], before)

    def test_desks_leave_racks_rules_and_rows_as_they_were(self):
        rack, start, rule = small_rack((("a", "b"),)), Stretch(0, 9), read_rule("rank 0 (c, a)")
        rows = [{"c": 5, "a": 4}, {"b": 90, "a": 5}, {}, {"c": 6, "a": 4}, {"x": 1}]
        before = copy.deepcopy([shown(rack), vars(start), str(rule), rows])
        for kind in (Desk, SteadyDesk):
            desk = kind(rack, start, liars=1, pace=1)
            for readings in rows[:4]:
                desk.record(readings)
            desk.trial(rows[:2])
            self.assertRaises(GaugeError, desk.trial, rows)
            self.assertRaises(GaugeError, desk.record, rows[4])
            for call in (lambda: desk.tell_late("b", 0, 5), lambda: desk.answer(rule), lambda: desk.story(5), desk.undo,
                         desk.redo, lambda: desk.allow(2), lambda: desk.smoothed(0), lambda: list(desk.walk())):
                call()
            for given in rows:
                desk.undo()
            self.assertEqual([shown(rack), vars(start), str(rule), rows], before)

    def test_finders_and_facts_leave_rules_lists_and_dicts_as_they_were(self):
        rules, readings = [read_rule("rank 0 (c, a)"), Leaf("c"), Leaf("a")], {"c": 9, "x": 0, "a": 1}
        first, second, gap = stretches((5, 9), (0, 6)), stretches((4, 5), (0, 3)), Stretch(-1, 2)
        before = copy.deepcopy([[str(rule) for rule in rules], readings, [str(each) for each in first + second],
                                str(gap)])
        finder = Finder.of(rules)
        for call in (lambda: differ(rules[0], rules[1]), lambda: alike(rules[0], rules[1]), finder.question,
                     lambda: finder.tell(readings, 1), lambda: tying.shared_budget(first, second, gap, 1),
                     lambda: tying.joint_clashes(first, second, gap), lambda: tying.agreed(first, second[:1], gap)):
            call()
        for call in (lambda: finder.tell(readings, 9), lambda: finder.tell({}, 1),
                     lambda: differ(rules[0], Trim(0, rules[1])),
                     lambda: tying.shared_budget(first, second, gap, 2), lambda: tying.agreed(first, second, gap)):
            self.assertRaises(GaugeError, call)
        self.assertEqual([[str(rule) for rule in rules], readings, [str(each) for each in first + second], str(gap)],
                         before)

    def test_a_case_leaves_what_it_looks_at_as_it_was(self):
        rack, case = small_rack((("a", "b"),)), Case(5, {"c": 5, "b": 9, "a": 90}, ["b", "a", "b"], 9)
        before = copy.deepcopy([shown(rack), vars(case)])
        self.assertIs(case.holds(rack, 1), True)
        self.assertIs(case.holds(rack, 0), False)
        self.assertEqual([shown(rack), vars(case)], before)


class HandedIn(Checks):
    def test_a_list_of_stretches(self):
        some = stretches((1, 2), (5, 6))
        levels = Levels.of(some)
        some[0].low = -70
        some.append(Stretch(8, 9))
        del some[1]
        self.assertEqual(levels.ends(), [(1, 2), (5, 6)])

    def test_a_list_of_gauges_and_groups(self):
        given, groups = [Gauge("b", 1), Gauge("a", 2)], (["b", "a"],)
        rack = Rack.of(given, together=groups)
        given.pop()
        given.append(Gauge("c", 1))
        groups[0].pop()
        self.assertEqual([rack.names(), rack.faults(), len(rack)], [["b", "a"], [["b", "a"]], 2])
        self.assertEqual(rack.fault_count(["a", "b"]), 1)
        self.assertNotIn("c", rack)

    def test_readings_and_lots(self):
        readings, lot, other = {"a": 1, "b": 2}, ["a"], ["b"]
        case, twins = Case(0, readings, lot, 1), Twins(readings, 0, lot, 1, other)
        readings["a"] = 99
        readings["z"] = 0
        lot.append("z")
        other.clear()
        self.assertEqual([case.readings, case.lot], [{"a": 1, "b": 2}, ["a"]])
        self.assertEqual([twins.readings, twins.low_lot, twins.high_lot], [{"a": 1, "b": 2}, ["a"], ["b"]])

    def test_weights_and_parts(self):
        weights, parts = [0, 3], [Leaf("a"), Leaf("b")]
        rule = Weigh.of(weights, parts)
        weights.reverse()
        parts.clear()
        self.assertEqual([str(rule), rule.answer({"a": 1, "b": 2})], ["weigh 0 3 (a, b)", 2])


class Returned(Checks):
    def check_new(self, calls):
        """Each call returns a list or a dict that is not empty, and a new one each time."""
        for call in calls:
            before = copy.deepcopy(call())
            call().clear()
            self.assertEqual(call(), before)
            self.assertTrue(before)

    def test_ends_and_pieces(self):
        levels = Levels(*stretches((1, 2), (5, 6)))
        levels.ends().append((8, 9))
        levels.ends()[0] = (0, 0)
        list(levels).pop()
        self.assertEqual(levels.ends(), [(1, 2), (5, 6)])
        levels.hull().low = -9
        self.assertEqual(levels.hull(), Stretch(1, 6))

    def test_results_of_sharing(self):
        some = stretches((5, 9), (0, 4), (2, 6))
        for call in (sharing.apart_lots, sharing.clashes, lambda entries: sharing.sure_honest(entries, 2)):
            before = call(some)
            call(some).append(99)
            call(some)[:] = []
            self.assertEqual(call(some), before)
        sharing.apart_lots(some)[0].append(99)
        self.assertEqual(sharing.apart_lots(some), [[1, 0], [2]])

    def test_lists_of_a_rack(self):
        rack = Rack(Gauge("b", 1), Gauge("a", 2), Gauge("c", 2), together=(("a", "b"),))
        rack.names().append("x")
        rack.names().clear()
        rack.faults().append(["x"])
        rack.faults()[0].append("c")
        rack.blame({"a": 9}, 0).append("x")
        self.assertEqual(rack.names(), ["b", "a", "c"])
        self.assertEqual(rack.faults(), [["b", "a"], ["c"]])
        self.assertEqual(rack.blame({"a": 9}, 0), ["a"])
        self.assertEqual([len(rack), rack.fault_count(["b", "c"])], [3, 2])

    def test_names_of_a_rule(self):
        for rule, names in ((read_rule("rank 0 (b, trim 0 (a, c))"), ["b", "a", "c"]), (Leaf("a"), ["a"])):
            rule.names().append("x")
            rule.names().clear()
            self.assertEqual(rule.names(), names)
            self.assertEqual(rule.answer({"a": 7, "b": 8, "c": 9}), 7 if names == ["a"] else 8)

    def test_results_of_worst_and_papers(self):
        rack, rule = small_rack(), read_rule("rank 1 (a, rank 0 (b), c)")
        calls = [lambda: worst.order_rules(rack, [rule, Leaf("a")], 1), lambda: worst.miss_table(rack, rule),
                 lambda: papers.make_paper(rack, rule, 1), lambda: worst.worst_case(rack, rule, 1).lot,
                 lambda: worst.worst_case(rack, rule, 1).readings, lambda: papers.twin_worlds(rack, 1).low_lot,
                 lambda: papers.twin_worlds(rack, 1).high_lot, lambda: papers.twin_worlds(rack, 1).readings]
        self.check_new(calls)
        self.assertEqual(shown(rack), shown(small_rack()))

    def test_results_of_dropping(self):
        rack = small_rack()
        calls = [lambda: dropping.drop_case(rack, ["a", "c"], [], "a", 0)[1], lambda: dropping.drop_table(rack, 0, []),
                 lambda: dropping.drop_case(rack, ["a", "c"], ["a"], "a", 0)[1],
                 lambda: dropping.drop_table(rack, 0, [])[0][0],
                 lambda: dropping.drop_table(rack, 0, [])[0][1], lambda: dropping.drop_table(rack, 0, [])[1][0],
                 lambda: dropping.drop_path(rack, 0, [], ["a"]), lambda: dropping.drop_path(rack, 0, [], ["a"])[0][1],
                 Keeper(rack, 0).kept]
        self.check_new(calls)
        self.assertEqual(shown(rack), shown(small_rack()))

    def test_lists_in_one_table_are_not_tied_to_each_other(self):
        rack = small_rack()
        table = dropping.drop_table(rack, 0, ["a"])
        for at, (kept, droppable) in enumerate(copy.deepcopy(table)):
            table[at][0].clear()
            table[at][1].append("x")
            self.assertEqual(table[at + 1:], dropping.drop_table(rack, 0, ["a"])[at + 1:])

    def test_the_list_of_no_case(self):
        kept = ["c", "b"]
        with self.assertRaises(NoCase) as caught:
            dropping.drop_path(small_rack(), 99, [], kept)
        caught.exception.lot.append("x")
        self.assertEqual([kept, caught.exception.lot], [["c", "b"], ["b", "c", "x"]])

    def test_results_of_desks(self):
        for kind in (Desk, SteadyDesk):
            desk = kind(small_rack(), Stretch(0, 9), liars=1, pace=1)
            desk.record({"a": 3, "b": 70, "c": 4})
            calls = [lambda: desk.story(4), lambda: desk.story(4)[0][1], lambda: list(desk.walk())[0][1],
                     desk.wrong_now,
                     lambda: desk.trial([{}]), lambda: desk.now.ends(), lambda: desk.at(0).ends()]
            self.check_new(calls)

    def test_results_of_finders_and_facts(self):
        finder, first = Finder(Leaf("a"), Leaf("b")), stretches((5, 9), (0, 4))
        self.check_new([finder.left, finder.question, lambda: differ(Leaf("a"), Leaf("b")),
                        lambda: tying.joint_clashes(first, [], Stretch(0, 1))])

    def test_a_rack_that_was_read(self):
        text = "a 1\nb 4\nc 2\ntogether c a"
        read_rack(text).faults()[0].append("b")
        read_rack(text).names().clear()
        self.assertEqual(shown(read_rack(text)), shown(small_rack((("a", "c"),))))


if __name__ == "__main__":
    unittest.main()
