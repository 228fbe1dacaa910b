"""Points 40 to 44."""

import itertools
import math
import random
import unittest

from gaugemiss.errors import BadLiars, BadPaper, NoBound, SharedFault, UnknownGauge
from gaugemiss.gauges import CoarseGauge, Gauge, LateGauge, Rack
from gaugemiss.notation import read_rule
from gaugemiss.papers import Twins, check_paper, least_miss, make_paper, twin_worlds
from gaugemiss.rules import Leaf, Rank, Trim
from gaugemiss.worst import worst_miss
from tests.checks import BIG, Checks
from tests.drawing import LETTERS, drawn_rack, drawn_rule, full_rack, full_rules, leaves

SIDES = ("above", "below")


def small_rack(together=()):
    return Rack(Gauge("a", 1), Gauge("b", 4), Gauge("c", 2), together=together)


def sums(total, many):
    """All ways to write a number as a sum of so many numbers, in order."""
    if many == 1:
        return [(total,)]
    return [(first, *rest) for first in range(total + 1) for rest in sums(total - first, many - 1)]


def slow_combination(words, numbers):
    """The number that a rule gives, from the words of its written form. Infinite numbers may be among them."""
    ordered = sorted(numbers)
    if words[0] == "rank":
        return ordered[int(words[1])]
    if words[0] == "weigh":
        weights = [int(word) for word in words[1:]]
        return min(v for v in numbers if 2 * sum(w for w, n in zip(weights, numbers) if n <= v) >= sum(weights))
    middle = ordered[int(words[1]):len(ordered) - int(words[1])]
    return next((n for n in middle if math.isinf(n)), None) or sum(middle) // len(middle)


def slow_paper(rack, rule, liars, side):
    """The rows that are due, in the words of point 41, with infinite numbers for None."""
    sign = 1 if side == "above" else -1
    if isinstance(rule, Leaf):
        gauge = rack.gauge(str(rule))
        slack = gauge.slack_below() if side == "above" else gauge.slack_above()
        return [(str(rule), (slack, *[None] * liars))]
    below = [slow_paper(rack, part, liars, side) for part in rule.parts]
    bounds = []
    for many in range(liars + 1):
        values = []
        for way in sums(many, len(below)):
            taken = [rows[-1][1][number] for rows, number in zip(below, way)]
            numbers = [sign * math.inf if bound is None else sign * bound for bound in taken]
            values.append(sign * slow_combination(str(rule).split(" (")[0].split(), numbers))
        bounds.append(None if math.inf in values else max(values))
    return [row for rows in below for row in rows] + [(str(rule).split()[0], tuple(bounds))]


class Making(Checks):
    def test_the_example(self):
        rule = Rank.median(*leaves("abc"))
        paper = make_paper(small_rack(), rule, 1)
        self.assertEqual(paper, [("a", (1, None)), ("b", (4, None)), ("c", (2, None)), ("rank", (2, 4))])
        self.assertIsInstance(paper, list)
        for row in paper:
            self.assertEqual([type(row), type(row[1])], [tuple, tuple])
        self.assertEqual(make_paper(small_rack(), rule, 0), [("a", (1,)), ("b", (4,)), ("c", (2,)), ("rank", (2,))])
        self.assertEqual(make_paper(small_rack(), rule, 3)[-1], ("rank", (2, 4, None, None)))

    def test_both_sides_of_one_sided_slacks(self):
        rack = Rack(CoarseGauge("a", 1, step=5), LateGauge("b", 2, late=2, pace=3), Gauge("c", 4))
        rule = Rank.least(*leaves("abc"))
        self.assertEqual(make_paper(rack, rule, 1, side="above"),
                         [("a", (1, None)), ("b", (8, None)), ("c", (4, None)), ("rank", (1, 4))])
        self.assertEqual(make_paper(rack, rule, 1, side="below"),
                         [("a", (5, None)), ("b", (8, None)), ("c", (4, None)), ("rank", (8, None))])

    def test_means_are_rounded_down_on_both_sides(self):
        rack = Rack(Gauge("a", 0), Gauge("b", 1), Gauge("c", 5))
        for letters, above, below in (("ab", 0, 1), ("ac", 2, 3), ("abc", 2, 2), ("b", 1, 1)):
            rule = Trim.of(0, leaves(letters))
            self.assertEqual(make_paper(rack, rule, 0)[-1], ("trim", (above,)))
            self.assertEqual(make_paper(rack, rule, 0, side="below")[-1], ("trim", (below,)))
        rule = Trim.of(1, leaves("abc"))
        for side in SIDES:
            self.assertEqual(make_paper(rack, rule, 2, side=side)[-1], ("trim", (1, 5, None)))

    def test_rows_stand_directly_behind_those_of_their_parts(self):
        rule = read_rule("rank 1 (a, trim 1 (b, c, d), weigh 2 1 (e, rank 0 (f)))")
        rack = Rack(*[Gauge(name, 1) for name in "fedcbax"])
        labels = ["a", "b", "c", "d", "trim", "e", "f", "rank", "weigh", "rank"]
        self.assertEqual([label for label, _ in make_paper(rack, rule, 2)], labels)

    def test_drawn_papers(self):
        source = random.Random(41)
        for _ in range(80):
            rack = drawn_rack(source, source.sample(LETTERS, source.randint(1, 6)), groups=False)
            rule = drawn_rule(source, source.sample(rack.names(), source.randint(1, len(rack))))
            liars = source.randint(0, min(4, len(rack)))
            for side in SIDES:
                paper = make_paper(rack, rule, liars, side=side)
                self.assertEqual(paper, slow_paper(rack, rule, liars, side), str(rule))
                self.assertEqual(paper[-1][1][-1], getattr(worst_miss(rack, rule, liars), side))
                self.assertEqual(check_paper(rack, rule, liars, paper, side=side), paper[-1][1][-1])

    def test_full_size(self):
        rack = full_rack()
        for rule in full_rules():
            misses = [worst_miss(rack, rule, liars) for liars in range(10)]
            for side in SIDES:
                paper = make_paper(rack, rule, 9, side=side)
                self.assertEqual(paper[-1][1], tuple(getattr(miss, side) for miss in misses))
                for liars in range(10):
                    part = [(label, bounds[:liars + 1]) for label, bounds in paper]
                    self.assertEqual(make_paper(rack, rule, liars, side=side), part)
                self.assertIsNone(check_paper(rack, rule, 9, paper, side=side))

    def test_errors_in_their_order(self):
        rule, paper = Rank(0, Leaf("a"), Rank(0, Leaf("x"), Leaf("b")), Leaf("z")), []
        shared = small_rack((("c", "b"),))
        for rack, liars in ((shared, -1), (shared, 0), (small_rack(), 9), (Rack(), 0)):
            self.refuses(UnknownGauge, {"name": "a" if len(rack) == 0 else "x"}, make_paper, rack, rule, liars)
            self.refuses(UnknownGauge, {"name": "a" if len(rack) == 0 else "x"}, check_paper, rack, rule, liars, paper)
        for liars in (-1, 0, 2, 3, 4):
            self.refuses(SharedFault, {"name": "b"}, make_paper, shared, Leaf("a"), liars)
            self.refuses(SharedFault, {"name": "b"}, check_paper, shared, Leaf("a"), liars, paper)
        for liars in (-1, 4, BIG):
            for side in SIDES:
                self.refuses(BadLiars, {"number": liars}, make_paper, small_rack(), Leaf("a"), liars, side=side)
                self.refuses(BadLiars, {"number": liars}, check_paper, small_rack(), Leaf("a"), liars, paper, side=side)

    def test_the_first_gauge_that_shares_its_fault(self):
        for groups, name in (((("d", "c"), ("e", "b")), "b"), ((("e", "a"),), "a"), ((("d", "e"),), "d"),
                             ((("c",), ("e", "d")), "d")):
            rack = Rack(*[Gauge(letter, 1) for letter in "abcde"], together=groups)
            self.refuses(SharedFault, {"name": name}, make_paper, rack, Leaf("a"), 0)
        rack = Rack(*[Gauge(letter, 1) for letter in "ab"], together=(("b",), (), ("a",)))
        self.assertEqual(make_paper(rack, Leaf("a"), 0), [("a", (1,))])


class Checking(Checks):
    RULE = "rank 1 (trim 1 (a, b, c), d, weigh 2 1 1 (e, f, g))"

    def setUp(self):
        self.rack = Rack(*[Gauge(name, at) for at, name in enumerate("gfedcba")])
        self.rule = read_rule(self.RULE)

    def wrong(self, row, paper, liars=2, side="above"):
        self.refuses(BadPaper, {"row": row}, check_paper, self.rack, self.rule, liars, paper, side=side)

    def test_made_papers_are_good(self):
        for liars in range(8):
            for side in SIDES:
                paper = make_paper(self.rack, self.rule, liars, side=side)
                expected = getattr(worst_miss(self.rack, self.rule, liars), side)
                self.assertEqual(check_paper(self.rack, self.rule, liars, paper, side=side), expected)

    def test_rows_that_are_missing_or_too_many(self):
        paper = make_paper(self.rack, self.rule, 2)
        for kept in range(len(paper)):
            self.wrong(kept, paper[:kept])
        for more in ([("a", (6, None, None))], [paper[-1]], [("x", ())] * 3):
            self.wrong(len(paper), paper + more)
        for at in range(len(paper) - 1):
            self.wrong(at, paper[:at] + paper[at + 1:])

    def test_wrong_labels(self):
        paper = make_paper(self.rack, self.rule, 2)
        for at, (label, bounds) in enumerate(paper):
            for other in ("x", "rank", "trim", "weigh", "a", "d", "", "leaf", label.upper()):
                if other != label:
                    self.wrong(at, [*paper[:at], (other, bounds), *paper[at + 1:]])

    def test_wrong_numbers_of_bounds(self):
        paper = make_paper(self.rack, self.rule, 2)
        for at, (label, bounds) in enumerate(paper):
            for other in (bounds[:2], bounds[:1], (), (*bounds, None), (*bounds, 99), (None,) * 4):
                self.wrong(at, [*paper[:at], (label, other), *paper[at + 1:]])
        for liars in (0, 1, 3):
            self.wrong(0, paper, liars)

    def test_every_bound_that_is_lowered(self):
        for side in SIDES:
            paper = make_paper(self.rack, self.rule, 2, side=side)
            for at, (label, bounds) in enumerate(paper):
                for place, bound in enumerate(bounds):
                    for lower in ([bound - 1, -BIG] if bound is not None else [0, 5, BIG]):
                        changed = (*bounds[:place], lower, *bounds[place + 1:])
                        self.wrong(at, [*paper[:at], (label, changed), *paper[at + 1:]], side=side)

    def test_raised_bounds_are_good_in_their_own_row(self):
        for side in SIDES:
            paper = make_paper(self.rack, self.rule, 2, side=side)
            label, bounds = paper[-1]
            for place, bound in enumerate(bounds):
                for higher in ([None] if bound is None else [None, bound + 1, BIG]):
                    changed = (*bounds[:place], higher, *bounds[place + 1:])
                    got = check_paper(self.rack, self.rule, 2, [*paper[:-1], (label, changed)], side=side)
                    self.assertEqual(got, changed[-1])

    def test_raised_bounds_raise_what_is_due_above_them(self):
        rack, rule = small_rack(), Rank.median(*leaves("abc"))
        for rows, answer in (([("a", (3, None)), ("b", (4, None)), ("c", (2, None)), ("rank", (3, 4))], 4),
                             ([("a", (1, None)), ("b", (9, None)), ("c", (2, None)), ("rank", (2, 9))], 9),
                             ([("a", (1, None)), ("b", (None, None)), ("c", (2, None)), ("rank", (2, None))], None),
                             ([("a", (7, None)), ("b", (8, None)), ("c", (9, None)), ("rank", (8, 9))], 9),
                             ([("a", (7, None)), ("b", (8, None)), ("c", (9, None)), ("rank", (None, 9))], 9),
                             ([(name, (None, None)) for name in ("a", "b", "c", "rank")], None)):
            self.assertEqual(check_paper(rack, rule, 1, rows), answer)
        for rows, at in (([("a", (3, None)), ("b", (4, None)), ("c", (2, None)), ("rank", (2, 4))], 3),
                         ([("a", (1, None)), ("b", (9, None)), ("c", (2, None)), ("rank", (2, 4))], 3),
                         ([("a", (1, None)), ("b", (None, None)), ("c", (2, None)), ("rank", (2, 4))], 3),
                         ([("a", (0, None)), ("b", (9, None)), ("c", (2, None)), ("rank", (1, 4))], 0)):
            self.refuses(BadPaper, {"row": at}, check_paper, rack, rule, 1, rows)

    def test_bounds_need_not_rise_with_the_number_of_liars(self):
        rule = read_rule("rank 0 (rank 1 (a, b, c), rank 0 (d))")
        rack = Rack(*[Gauge(name, 1) for name in "abcd"])
        start = [(name, (1, None)) for name in "abc"]
        end = [("d", (9, None)), ("rank", (9, None))]
        for bounds, top, good in (((1, 1), (1, 1), True), ((5, 2), (5, 5), True), ((5, 2), (5, 4), False),
                                  ((5, 2), (5, 2), False), ((5, 2), (4, 5), False), ((2, 5), (2, 5), True),
                                  ((2, 5), (2, 4), False), ((None, 2), (9, None), True), ((None, 2), (9, 9), False)):
            paper = [*start, ("rank", bounds), *end, ("rank", top)]
            if good:
                self.assertEqual(check_paper(rack, rule, 1, paper), top[-1])
            else:
                self.refuses(BadPaper, {"row": 6}, check_paper, rack, rule, 1, paper)

    def test_the_first_wrong_row_is_named(self):
        paper = make_paper(self.rack, self.rule, 2)
        for first, second in itertools.combinations(range(len(paper)), 2):
            rows = [("x", bounds) if at in (first, second) else (label, bounds)
                    for at, (label, bounds) in enumerate(paper)]
            self.wrong(first, rows)
            self.wrong(first, rows[:second])
            self.wrong(first, rows + rows)

    def test_drawn_good_papers_never_claim_too_little(self):
        source = random.Random(42)
        for _ in range(60):
            rack = drawn_rack(source, source.sample(LETTERS, source.randint(1, 6)), groups=False)
            rule = drawn_rule(source, source.sample(rack.names(), source.randint(1, len(rack))))
            liars, side = source.randint(0, min(3, len(rack))), source.choice(SIDES)
            paper = make_paper(rack, rule, liars, side=side)
            for at, (label, bounds) in enumerate(paper):
                if source.random() < 0.5:
                    paper[at] = label, tuple(source.choice([bound, bound, None, (bound or 0) + source.randint(-1, 3)])
                                             for bound in bounds)
            try:
                claimed = check_paper(rack, rule, liars, paper, side=side)
            except BadPaper as error:
                self.assertTrue(0 <= error.row < len(paper))
            else:
                most = getattr(worst_miss(rack, rule, liars), side)
                self.assertTrue(claimed is None or most is not None and most <= claimed)

    def test_the_paper_that_is_handed_in_stays(self):
        paper = make_paper(self.rack, self.rule, 2)
        before = [(label, tuple(bounds)) for label, bounds in paper]
        check_paper(self.rack, self.rule, 2, paper)
        self.wrong(len(paper), paper + [paper[0]])
        self.wrong(3, [*paper[:3], ("x", ())])
        self.assertEqual(paper, before)


class LeastMisses(Checks):
    def test_hand_worked_widths(self):
        rack = Rack(*[Gauge(name, radius) for name, radius in zip("abcde", (9, 1, 5, 3, 7))])
        self.assertEqual([least_miss(rack, liars) for liars in range(6)], [1, 5, 9, None, None, None])

    def test_odd_widths_are_rounded_up(self):
        for step, miss in ((1, 1), (2, 2), (3, 2), (4, 3)):
            self.assertEqual(least_miss(Rack(CoarseGauge("a", 1, step=step)), 0), miss)
        self.assertEqual(least_miss(Rack(Gauge("a", 0)), 0), 0)
        self.assertEqual(least_miss(Rack(CoarseGauge("a", BIG, step=2)), 0), BIG + 1)

    def test_a_fault_is_as_wide_as_its_narrowest_gauge(self):
        gauges = [Gauge(name, radius) for name, radius in zip("abcde", (9, 1, 5, 3, 7))]
        rack = Rack(*gauges, together=(("a", "d"), ("e", "c")))
        self.assertEqual([least_miss(rack, liars) for liars in range(4)], [1, 5, None, None])
        rack = Rack(*gauges, together=(("a", "b", "c", "d", "e"),))
        self.assertEqual([least_miss(rack, liars) for liars in range(2)], [1, None])

    def test_the_empty_rack(self):
        self.assertIsNone(least_miss(Rack(), 0))
        self.refuses(NoBound, {}, twin_worlds, Rack(), 0)

    def test_errors_in_their_order(self):
        for rack, numbers in ((small_rack(), (-1, 4, BIG)), (small_rack((("a", "b"),)), (-1, 3)), (Rack(), (-1, 1))):
            for liars in numbers:
                self.refuses(BadLiars, {"number": liars}, least_miss, rack, liars)
                self.refuses(BadLiars, {"number": liars}, twin_worlds, rack, liars)
        for liars in (2, 3):
            self.assertIsNone(least_miss(small_rack(), liars))
            self.refuses(NoBound, {}, twin_worlds, small_rack(), liars)

    def test_no_drawn_rule_stays_below_it(self):
        source = random.Random(43)
        for _ in range(150):
            rack = drawn_rack(source, source.sample(LETTERS, source.randint(1, 7)))
            rule = drawn_rule(source, source.sample(rack.names(), source.randint(1, len(rack))))
            for liars in range(len(rack.faults()) + 1):
                worst, least = worst_miss(rack, rule, liars).worst, least_miss(rack, liars)
                self.assertTrue(worst is None or least is not None and worst >= least)

    def test_fused_reaches_it(self):
        source = random.Random(44)
        for _ in range(150):
            rack = drawn_rack(source, source.sample(LETTERS, source.randint(1, 7)))
            level = source.randint(-50, 50)
            for liars in range((len(rack.faults()) + 1) // 2):
                lying = [name for fault in source.sample(rack.faults(), liars) for name in fault]
                readings = {name: level + source.randint(-9, 9) if name in lying else
                            source.randint(*rack.gauge(name).extremes(level)) for name in rack.names()}
                self.assertLessEqual(abs(level - rack.fused(readings, liars)), least_miss(rack, liars))

    def test_the_median_of_the_narrowest_gauges_reaches_it(self):
        source = random.Random(45)
        for _ in range(50):
            rack = Rack(*[Gauge(name, source.randint(0, 9)) for name in LETTERS[:source.randint(1, 9)]])
            names = sorted(rack.names(), key=lambda name: rack.gauge(name).width)
            for liars in range((len(names) + 1) // 2):
                rule = Rank.median(*leaves(names[:2 * liars + 1]))
                self.assertEqual(worst_miss(rack, rule, liars).worst, least_miss(rack, liars))


class TwinWorlds(Checks):
    def check_twins(self, rack, liars):
        twins = twin_worlds(rack, liars)
        self.assertIsInstance(twins, Twins)
        self.assertEqual(sorted(twins.readings), sorted(rack.names()))
        for level, lot in ((twins.low_level, twins.low_lot), (twins.high_level, twins.high_lot)):
            self.assertIsInstance(lot, list)
            self.assertEqual(len(set(lot)), len(lot))
            self.assertEqual([name for name in rack.blame(twins.readings, level) if name not in lot], [])
            self.assertLessEqual(rack.fault_count(lot), liars)
        widths = sorted(min(rack.gauge(name).width for name in fault) for fault in rack.faults())
        self.assertEqual(twins.gap, widths[2 * liars])
        self.assertEqual(twins.gap, twins.high_level - twins.low_level)

    def test_attributes_and_gap(self):
        twins = Twins({"a": 1}, -3, ["a"], 5, ["b", "c"])
        self.assertEqual([twins.readings, twins.low_level, twins.low_lot, twins.high_level, twins.high_lot, twins.gap],
                         [{"a": 1}, -3, ["a"], 5, ["b", "c"], 8])
        self.assertEqual(Twins({}, -BIG, [], BIG, []).gap, 2 * BIG)

    def test_drawn_racks(self):
        source = random.Random(46)
        for _ in range(150):
            rack = drawn_rack(source, source.sample(LETTERS, source.randint(1, 9)))
            many = len(rack.faults())
            for liars in range(many + 1):
                if 2 * liars < many:
                    self.check_twins(rack, liars)
                else:
                    self.refuses(NoBound, {}, twin_worlds, rack, liars)

    def test_full_size(self):
        for liars in range(5):
            self.check_twins(full_rack(), liars)
        self.refuses(NoBound, {}, twin_worlds, full_rack(), 5)

    def test_one_sided_slacks_and_widths_of_zero(self):
        self.check_twins(Rack(CoarseGauge("a", 0, step=9)), 0)
        self.check_twins(Rack(Gauge("a", 0), Gauge("b", 0), Gauge("c", 0)), 1)
        rack = Rack(CoarseGauge("a", 0, step=9), CoarseGauge("b", 2, step=3), Gauge("c", 4), together=())
        self.check_twins(rack, 1)
        self.assertEqual(twin_worlds(rack, 1).gap, 8)


if __name__ == "__main__":
    unittest.main()
