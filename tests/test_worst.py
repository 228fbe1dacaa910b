"""Points 34 to 39."""

import inspect
import itertools
import random
import unittest

from gaugemiss.errors import BadLiars, UnknownGauge
from gaugemiss.gauges import CoarseGauge, Gauge, LateGauge, Rack
from gaugemiss.notation import read_rule
from gaugemiss.rules import Leaf, Rank, Trim, Weigh
from gaugemiss.worst import (Case, Miss, best_rule, liar_lots, miss_table, order_rules, too_many, tree_loss, worst_case,
                             worst_miss)
from tests.checks import BIG, Checks
from tests.drawing import LETTERS, drawn_rack, drawn_rule, full_rack, full_rules, leaves

LIE = 10 ** 6


def small_rack(together=()):
    return Rack(Gauge("a", 1), Gauge("b", 4), Gauge("c", 2), together=together)


def pair(miss):
    return miss.above, miss.below


def slow_misses(rack, rule, readings_of):
    """For each number of liars the worst miss, from all combinations of readings at level 0, each looked at once."""
    names = rack.names()
    most = [[0, 0] for _ in range(len(rack.faults()) + 1)]
    for numbers in itertools.product(*[readings_of(rack.gauge(name)) for name in names]):
        readings = dict(zip(names, numbers))
        liars, miss = rack.fault_count(rack.blame(readings, 0)), rule.answer(readings)
        for row in most[liars:]:
            row[:] = max(row[0], miss), max(row[1], -miss)
    return [tuple(None if number > 1000 else number for number in row) for row in most]


def few_readings(gauge):
    return sorted({-LIE, *gauge.extremes(0), 0, LIE})


class Lots(Checks):
    def test_it_is_a_generator(self):
        self.assertTrue(inspect.isgenerator(liar_lots(small_rack(), 1)))

    def test_single_gauges_in_order(self):
        rack = Rack(*[Gauge(name, 1) for name in "cab"])
        self.assertEqual([list(liar_lots(rack, liars)) for liars in range(4)],
                         [[[]], [["c"], ["a"], ["b"]], [["c", "a"], ["c", "b"], ["a", "b"]], [["c", "a", "b"]]])

    def test_groups_stand_in_rack_order(self):
        rack = Rack(*[Gauge(name, 1) for name in "abcde"], together=(("d", "a"), ("e", "b")))
        self.assertEqual(list(liar_lots(rack, 0)), [[]])
        self.assertEqual(list(liar_lots(rack, 1)), [["a", "d"], ["b", "e"], ["c"]])
        self.assertEqual(list(liar_lots(rack, 2)), [["a", "b", "d", "e"], ["a", "c", "d"], ["b", "c", "e"]])
        self.assertEqual(list(liar_lots(rack, 3)), [list("abcde")])

    def test_the_empty_rack_has_one_empty_lot(self):
        self.assertEqual(list(liar_lots(Rack(), 0)), [[]])

    def test_drawn_racks(self):
        source = random.Random(35)
        for _ in range(40):
            rack = drawn_rack(source, source.sample(LETTERS, source.randint(0, 9)))
            for liars in range(len(rack.faults()) + 1):
                lots = [[name for name in rack.names() if any(name in fault for fault in faults)]
                        for faults in itertools.combinations(rack.faults(), liars)]
                self.assertEqual(list(liar_lots(rack, liars)), lots)

    def test_what_was_yielded_may_be_changed(self):
        rack = Rack(*[Gauge(name, 1) for name in "abcd"], together=(("b", "c"),))
        expected = list(liar_lots(rack, 2))
        got = []
        for lot in liar_lots(rack, 2):
            got.append(list(lot))
            lot.clear()
            lot.append("x")
        self.assertEqual(got, expected)
        self.assertEqual(list(liar_lots(rack, 2)), expected)
        self.assertEqual(rack.faults(), [["a"], ["b", "c"], ["d"]])


class Misses(Checks):
    def test_attributes_and_worst(self):
        for above, below, worst in ((3, 5, 5), (5, 3, 5), (0, 0, 0), (None, 5, None), (5, None, None),
                                    (None, None, None), (BIG, BIG + 1, BIG + 1), (0, None, None)):
            miss = Miss(above, below)
            self.assertEqual([miss.above, miss.below, miss.worst], [above, below, worst])

    def test_equality(self):
        rows = [(3, 5), (5, 3), (3, None), (None, 5), (None, None), (0, 0)]
        for one in rows:
            for other in rows:
                self.assertIs(Miss(*one) == Miss(*other), one == other)
                self.assertIs(Miss(*one) != Miss(*other), one != other)
        for other in ((3, 5), [3, 5], 5, None, "Miss(3, 5)", Rank(0, Leaf("a"))):
            self.assertIs(Miss(3, 5) == other, False)


class WorstMisses(Checks):
    def test_hand_worked_medians(self):
        rule = Rank.median(*leaves("abc"))
        misses = [worst_miss(small_rack(), rule, liars) for liars in range(4)]
        self.assertEqual([pair(miss) for miss in misses], [(2, 2), (4, 4), (None, None), (None, None)])
        self.assertIsInstance(misses[0], Miss)
        self.assertEqual(misses[1], Miss(4, 4))

    def test_hand_worked_one_sided_slacks(self):
        rack = Rack(CoarseGauge("a", 0, step=10), LateGauge("b", 1, late=2, pace=2), CoarseGauge("c", 3, step=4))
        rows = (("a", [(0, 9), (None, None)]), ("b", [(5, 5), (None, None)]), ("c", [(3, 6), (None, None)]),
                ("rank 0 (a, b, c)", [(0, 9), (3, None), (5, None), (None, None)]),
                ("rank 1 (a, b, c)", [(3, 6), (5, 9), (None, None), (None, None)]),
                ("rank 2 (a, b, c)", [(5, 5), (None, 6), (None, 9), (None, None)]))
        for text, misses in rows:
            for liars in range(4):
                expected = misses[min(liars, len(misses) - 1)]
                self.assertEqual(pair(worst_miss(rack, read_rule(text), liars)), expected, (text, liars))

    def test_hand_worked_trims_round_down_on_both_sides(self):
        rack = Rack(Gauge("a", 0), Gauge("b", 1), Gauge("c", 1))
        self.assertEqual(pair(worst_miss(rack, Trim.of(0, leaves("ab")), 0)), (0, 1))
        self.assertEqual(pair(worst_miss(rack, Trim.of(0, leaves("abc")), 0)), (0, 1))
        self.assertEqual(pair(worst_miss(rack, Trim.of(0, leaves("abc")), 1)), (None, None))
        self.assertEqual(pair(worst_miss(rack, Trim.of(1, leaves("abc")), 1)), (1, 1))
        self.assertEqual(pair(worst_miss(rack, Trim(0, Rank(0, *leaves("bc")), Leaf("a")), 1)), (None, None))

    def test_hand_worked_groups(self):
        rule = Rank.median(*leaves("abc"))
        rack = small_rack((("a", "c"),))
        self.assertEqual([pair(worst_miss(rack, rule, liars)) for liars in range(3)],
                         [(2, 2), (None, None), (None, None)])
        wide = Rack(*[Gauge(name, at) for at, name in enumerate("abcde")], together=(("e", "d"),))
        rule = Rank.median(*leaves("abcde"))
        self.assertEqual([pair(worst_miss(wide, rule, liars)) for liars in range(3)], [(2, 2), (3, 3), (None, None)])

    def test_gauges_outside_of_the_rule_may_lie(self):
        rule = Rank.median(*leaves("ac"))
        self.assertEqual([pair(worst_miss(small_rack(), rule, liars)) for liars in range(4)],
                         [(1, 2), (2, None), (None, None), (None, None)])
        self.assertEqual([pair(worst_miss(small_rack((("a", "b"),)), Leaf("c"), liars)) for liars in range(3)],
                         [(2, 2), (None, None), (None, None)])

    def test_weights(self):
        rule = Weigh([1, 0, 5], *leaves("abc"))
        self.assertEqual([pair(worst_miss(small_rack(), rule, liars)) for liars in range(2)], [(2, 2), (None, None)])
        rack = small_rack((("a", "b"),))
        self.assertEqual(pair(worst_miss(rack, Weigh([2, 2, 5], *leaves("abc")), 1)), (None, None))
        rule = Weigh([2, 2, 3], *leaves("abc"))
        self.assertEqual([pair(worst_miss(small_rack(), rule, liars)) for liars in range(2)], [(2, 2), (4, 4)])

    def test_drawn_rules_on_small_racks(self):
        source = random.Random(36)
        for _ in range(60):
            rack = drawn_rack(source, source.sample(LETTERS, source.randint(1, 4)))
            rule = drawn_rule(source, source.sample(rack.names(), source.randint(1, len(rack))), 3)
            misses = [pair(worst_miss(rack, rule, liars)) for liars in range(len(rack.faults()) + 1)]
            self.assertEqual(misses, slow_misses(rack, rule, few_readings), str(rule))

    def test_drawn_rules_over_all_near_readings(self):
        source = random.Random(37)
        for _ in range(12):
            rack = drawn_rack(source, "abc"[:source.randint(1, 3)], most=1)
            rule = drawn_rule(source, rack.names(), 3)
            misses = [pair(worst_miss(rack, rule, liars)) for liars in range(len(rack.faults()) + 1)]
            self.assertEqual(misses, slow_misses(rack, rule, lambda gauge: [-LIE, *range(-7, 8), LIE]), str(rule))

    def test_full_size(self):
        rack = full_rack()
        far = 10 ** 60 - 1
        for rule in full_rules():
            misses = [worst_miss(rack, rule, liars) for liars in range(10)]
            self.assertEqual([miss.worst is None for miss in misses], sorted(miss.worst is None for miss in misses))
            self.assertIsNone(misses[9].worst)
        median = [pair(worst_miss(rack, full_rules()[0], liars)) for liars in range(6)]
        slacks = [(far + at, far + 2 * at) for at in range(9)]
        self.assertEqual(median, [*[slacks[4 + liars] for liars in range(5)], (None, None)])

    def test_errors_in_their_order(self):
        rule = Rank(0, Leaf("a"), Rank(0, Leaf("x"), Leaf("b")), Leaf("d"))
        for liars in (0, -1, 9):
            self.refuses(UnknownGauge, {"name": "x"}, worst_miss, small_rack(), rule, liars)
            self.refuses(UnknownGauge, {"name": "x"}, worst_case, small_rack(), rule, liars)
            self.refuses(UnknownGauge, {"name": "a"}, worst_miss, Rack(), rule, liars)
        for liars in (-1, 4, -BIG, BIG):
            self.refuses(BadLiars, {"number": liars}, worst_miss, small_rack(), Leaf("a"), liars)
            self.refuses(BadLiars, {"number": liars}, worst_case, small_rack(), Leaf("a"), liars)
        for liars in (-1, 3):
            self.refuses(BadLiars, {"number": liars}, worst_miss, small_rack((("a", "b"),)), Leaf("a"), liars)
        self.assertEqual(pair(worst_miss(small_rack((("a", "b"),)), Leaf("a"), 2)), (None, None))


class WorstCases(Checks):
    def check_case(self, rack, rule, liars, side, level, beyond):
        case = worst_case(rack, rule, liars, side=side, level=level, beyond=beyond)
        self.assertIsInstance(case, Case)
        self.assertEqual(case.level, level)
        self.assertTrue(case.holds(rack, liars))
        self.assertEqual(case.reply, rule.answer(case.readings))
        reached = case.miss if side == "above" else -case.miss
        most = getattr(worst_miss(rack, rule, liars), side)
        if most is None:
            self.assertGreaterEqual(reached, beyond)
        else:
            self.assertEqual(reached, most)

    def test_the_defaults(self):
        case = worst_case(small_rack(), Rank.median(*leaves("abc")), 1)
        self.assertEqual([case.level, case.miss, case.reply], [0, 4, 4])
        self.assertTrue(case.holds(small_rack(), 1))
        self.assertEqual(case.readings["b"], 4)

    def test_drawn_rules(self):
        source = random.Random(38)
        for _ in range(80):
            rack = drawn_rack(source, source.sample(LETTERS, source.randint(1, 6)))
            rule = drawn_rule(source, source.sample(rack.names(), source.randint(1, len(rack))))
            level, beyond = source.choice([0, 7, -40, BIG, -BIG]), source.choice([0, 1, 999, BIG])
            for liars in range(len(rack.faults()) + 1):
                for side in ("above", "below"):
                    self.check_case(rack, rule, liars, side, level, beyond)

    def test_a_lie_that_counts_only_in_part_is_still_far_enough(self):
        rule = read_rule("trim 0 (a, b, c, trim 0 (d, e, trim 0 (f, g, h)), i)")
        rack = Rack(*[Gauge(name, 1000 * at) for at, name in enumerate(LETTERS)])
        for side in ("above", "below"):
            for beyond in (0, 1, 50, 10 ** 6, BIG):
                self.check_case(rack, rule, 1, side, -3, beyond)

    def test_full_size(self):
        rack = full_rack()
        for rule in full_rules():
            for liars in range(10):
                for side in ("above", "below"):
                    self.check_case(rack, rule, liars, side, -10 ** 60 + 1, 10 ** 60 - 1)


class Cases(Checks):
    def case(self, level=10, readings=None, lot=(), reply=0):
        return Case(level, {"a": 10, "b": 12, "c": 11} if readings is None else readings, list(lot), reply)

    def test_attributes_and_miss(self):
        case = self.case(10, {"a": 3}, ["b"], 7)
        self.assertEqual([case.level, case.readings, case.lot, case.reply, case.miss], [10, {"a": 3}, ["b"], 7, -3])
        self.assertEqual(Case(-BIG, {}, [], BIG).miss, 2 * BIG)

    def test_it_holds(self):
        rack = small_rack((("a", "c"),))
        far = {"a": 99, "b": -99, "c": 11}
        rows = (((), None, 0), ((), None, 2), (("a", "c"), None, 1), (("a", "b", "c"), far, 2), (("b", "a", "b"), far, 2),
                (("a",), {"a": 99, "b": 12, "c": 11}, 1), (("c", "a", "c"), {"a": 99, "b": 12, "c": -5}, 1))
        for lot, readings, liars in rows:
            self.assertIs(self.case(10, readings, lot).holds(rack, liars), True)
            self.assertIs(self.case(10, readings, lot, reply=10 ** 9).holds(rack, liars), True)

    def test_each_reason_not_to_hold(self):
        rack = small_rack((("a", "c"),))
        good = {"a": 10, "b": 12, "c": 11}
        rows = (((), {"a": 10, "b": 12}, 2), ((), {**good, "d": 10}, 2), ((), {}, 2), (("b",), {"a": 10, "c": 11}, 2),
                (("d",), good, 2), (("a", "d"), good, 2), (("",), good, 2), ((), {**good, "a": 12}, 2),
                ((), {**good, "a": 8}, 2), (("b",), {**good, "c": 13}, 2), (("a",), {**good, "c": 7}, 2),
                (("a",), good, 0), (("a", "b"), good, 1), (("c", "b"), good, 1), ((), good, -1), (("b",), good, 0))
        for lot, readings, liars in rows:
            self.assertIs(self.case(10, readings, lot).holds(rack, liars), False)
        self.assertIs(self.case(14).holds(rack, 0), False)
        self.assertIs(self.case(11).holds(rack, 0), True)

    def test_the_edges_of_one_sided_slacks(self):
        rack = Rack(CoarseGauge("a", 1, step=5))
        for reading, holds in ((4, False), (5, True), (11, True), (12, False)):
            self.assertIs(Case(10, {"a": reading}, [], 0).holds(rack, 0), holds)
            self.assertIs(Case(10, {"a": reading}, ["a"], 0).holds(rack, 1), True)

    def test_the_empty_rack(self):
        self.assertIs(Case(0, {}, [], 0).holds(Rack(), 0), True)
        self.assertIs(Case(0, {"a": 0}, [], 0).holds(Rack(), 0), False)
        self.assertIs(Case(0, {}, ["a"], 0).holds(Rack(), 0), False)


class Comparing(Checks):
    def test_too_many(self):
        rows = (("a", 1), ("rank 1 (a, b, c)", 2), ("rank 0 (a, b, c)", 1), ("rank 0 (a, c)", 1),
                ("trim 1 (a, b, c)", 2), ("trim 0 (a, b, c)", 1), ("weigh 1 1 3 (a, b, c)", 1))
        for text, liars in rows:
            self.assertEqual(too_many(small_rack(), read_rule(text)), liars)
        self.assertEqual(too_many(small_rack((("a", "c"),)), read_rule("rank 1 (a, b, c)")), 1)
        self.assertEqual(too_many(small_rack((("a", "b", "c"),)), read_rule("rank 1 (a, b, c)")), 1)
        self.assertEqual(too_many(full_rack(), Rank.median(*leaves(LETTERS))), 5)
        self.assertEqual(too_many(full_rack(), Trim.of(3, leaves(LETTERS))), 4)
        self.refuses(UnknownGauge, {"name": "x"}, too_many, small_rack(), read_rule("rank 0 (a, x, y)"))

    def test_order_and_best(self):
        rules = [read_rule(text) for text in ("rank 0 (a, b)", "b", "a", "rank 1 (a, b, c)", "c", "trim 1 (a, b, c)")]
        rack = small_rack()
        self.assertEqual(order_rules(rack, rules, 0), [(2, 1), (3, 2), (4, 2), (5, 2), (0, 4), (1, 4)])
        self.assertEqual(order_rules(rack, rules, 1), [(3, 4), (5, 4), (0, None), (1, None), (2, None), (4, None)])
        self.assertEqual(order_rules(rack, rules, 3), [(at, None) for at in range(6)])
        self.assertEqual([best_rule(rack, rules, liars) for liars in range(4)], [2, 3, 0, 0])

    def test_the_empty_list(self):
        for liars in (0, -1, 99):
            self.assertEqual(order_rules(small_rack(), [], liars), [])
            self.assertIsNone(best_rule(small_rack(), [], liars))
        self.assertEqual(order_rules(Rack(), [], 0), [])

    def test_tree_loss(self):
        rack = Rack(*[Gauge(name, radius) for name, radius in zip("abcde", (1, 2, 3, 4, 50))])
        rows = (("rank 0 (a, b)", 0, 0), ("rank 0 (b)", 0, 0), ("rank 1 (rank 1 (a, b, c), d, e)", 0, 1),
                ("rank 1 (rank 1 (a, b, c), d, e)", 1, 46), ("rank 0 (a, b, c)", 0, 1), ("trim 1 (a, b, c)", 1, 0),
                ("weigh 5 1 1 (a, d, e)", 0, -3), ("weigh 5 1 1 (a, d, e)", 1, None), ("a", 0, 0), ("a", 1, None),
                ("rank 0 (a, b, c)", 1, None), ("rank 1 (rank 1 (a, b, c), d, e)", 2, None))
        for text, liars, loss in rows:
            self.assertEqual(tree_loss(rack, read_rule(text), liars), loss, (text, liars))

    def test_tree_loss_if_only_one_of_both_is_none(self):
        rack = Rack(*[Gauge(name, 1) for name in LETTERS])
        rule = read_rule("rank 1 (rank 1 (a, b, c), rank 1 (d, e, f), rank 1 (g, h, i))")
        self.assertEqual([tree_loss(rack, rule, liars) for liars in range(5)], [0, 0, 0, 0, None])
        self.assertEqual(worst_miss(rack, Rank.median(*leaves(LETTERS)), 4).worst, 1)
        rack = Rack(*[Gauge(name, 1) for name in "abcde"], together=(("a", "b", "c"),))
        rule = read_rule("rank 1 (rank 1 (a, b, c), d, e)")
        self.assertEqual(worst_miss(rack, rule, 1).worst, 1)
        self.assertIsNone(tree_loss(rack, rule, 1))

    def test_errors_in_their_order(self):
        rack = small_rack()
        good, wrong, other = Leaf("a"), read_rule("rank 0 (a, x, y)"), Leaf("z")
        self.refuses(UnknownGauge, {"name": "x"}, order_rules, rack, [good, wrong, other], 0)
        self.refuses(UnknownGauge, {"name": "z"}, best_rule, rack, [good, other, wrong], 0)
        self.refuses(UnknownGauge, {"name": "x"}, order_rules, rack, [wrong, good], -1)
        for call in (order_rules, best_rule):
            for liars in (-1, 4):
                self.refuses(BadLiars, {"number": liars}, call, rack, [good, wrong], liars)
                self.refuses(UnknownGauge, {"name": "z"}, call, rack, [other, good], liars)
        for liars in (-1, 0, 4):
            self.refuses(UnknownGauge, {"name": "x"}, tree_loss, rack, wrong, liars)
        for liars in (-1, 4):
            self.refuses(BadLiars, {"number": liars}, tree_loss, rack, good, liars)


class Tables(Checks):
    def test_widths_and_none(self):
        rule = Rank.median(*leaves("abc"))
        self.assertEqual(miss_table(small_rack(), rule),
                         [" 0        2        2", " 1        4        4", " 2     none     none", " 3     none     none"])
        rack = small_rack((("a", "b", "c"),))
        self.assertEqual(miss_table(rack, rule), [" 0        2        2", " 1     none     none"])

    def test_different_sides(self):
        rack = Rack(CoarseGauge("a", 0, step=100), Gauge("b", 12))
        self.assertEqual(miss_table(rack, Rank.least(*leaves("ab"))),
                         [" 0        0       99", " 1       12     none", " 2     none     none"])
        self.assertEqual(miss_table(rack, Rank.greatest(*leaves("ab"))),
                         [" 0       12       12", " 1     none       99", " 2     none     none"])

    def test_long_entries(self):
        rack = Rack(CoarseGauge("a", 12345678, step=2), Gauge("b", 1))
        self.assertEqual(miss_table(rack, Leaf("a")), [" 0 12345678 12345679"] + [f" {at}     none     none" for at in (1, 2)])
        rack = Rack(CoarseGauge("a", 99999999, step=2), Gauge("b", 1))
        self.assertEqual(miss_table(rack, Leaf("a"))[0], " 0 99999999 100000000")
        self.assertEqual(miss_table(rack, Leaf("b"))[0], " 0        1        1")
        rack = Rack(Gauge("a", BIG), Gauge("b", BIG + 1), Gauge("c", 5))
        self.assertEqual(miss_table(rack, Rank.greatest(*leaves("abc")))[0], f" 0 {BIG + 1}        5")
        self.assertEqual(miss_table(rack, Rank.least(*leaves("abc")))[:2], [f" 0        5 {BIG + 1}", f" 1 {BIG}     none"])

    def test_every_number_of_liars_has_a_line(self):
        for rule in full_rules():
            table = miss_table(full_rack(), rule)
            self.assertEqual([line.split()[0] for line in table], [str(liars) for liars in range(10)])
        rack = Rack(*[Gauge(name, 1) for name in "abcdefghijk"])
        self.assertEqual(miss_table(rack, Leaf("a"))[10:], ["10     none     none", "11     none     none"])

    def test_unknown_gauges(self):
        self.refuses(UnknownGauge, {"name": "x"}, miss_table, small_rack(), read_rule("rank 0 (a, x, y)"))
        self.refuses(UnknownGauge, {"name": "a"}, miss_table, Rack(), Leaf("a"))


if __name__ == "__main__":
    unittest.main()
