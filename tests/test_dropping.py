"""Points 47 to 50."""

import itertools
import random
import unittest

from gaugemiss.dropping import (Keeper, drop_case, drop_path, drop_table, honest_reach, keeper_miss, safe_limit)
from gaugemiss.errors import NoCase, UnknownGauge
from gaugemiss.gauges import CoarseGauge, Gauge, LateGauge, Rack
from gaugemiss.rules import Leaf, Rank
from gaugemiss.worst import Miss
from tests.checks import BIG, Checks
from tests.drawing import LETTERS, drawn_gauge, full_rack

# Slacks of the drawn gauges are at most 3, so what has an end ends at 6, and lies up to 10 show what has none.
LIES = range(-10, 11)
ENDLESS = 7


def rack_of(letters, *radii):
    return Rack(*[Gauge(letter, radius) for letter, radius in zip(letters, radii)])


def small_gauge(source, name):
    radius, step = source.randint(0, 2), source.randint(1, 2)
    return source.choice([Gauge(name, radius), CoarseGauge(name, radius, step=step),
                          CoarseGauge(name, 0, step=step + 2)])


def small_rack(source, many):
    return Rack(*[small_gauge(source, name) for name in source.sample(LETTERS, many)])


def some_of(source, names):
    return [name for name in names if source.random() < 0.4]


def all_rows(rack, kept, lot):
    """All rows of readings of these gauges at the level 0. Other levels only move the row."""
    shown = [LIES if name in lot else range(rack.gauge(name).extremes(0)[0], rack.gauge(name).extremes(0)[1] + 1)
             for name in kept]
    return itertools.product(*shown)


def slow_outcomes(rack, kept, lot):
    """For each kept gauge the greatest distance at which it is dropped, and the least and the greatest answer."""
    kept = [name for name in rack.names() if name in kept]
    most, answers = {name: 0 for name in kept}, []
    for row in all_rows(rack, kept, lot):
        answer = sorted(row)[(len(row) - 1) // 2]
        distances = [abs(number - answer) for number in row]
        first = distances.index(max(distances))
        most[kept[first]] = max(most[kept[first]], distances[first])
        answers.append(answer)
    return {name: None if most[name] >= ENDLESS else most[name] for name in kept}, min(answers), max(answers)


def slow_table(rack, limit, lot):
    """The rows of the table, from all rows of readings."""
    rows, waiting = [], [rack.names()]
    for kept in waiting:
        reaches = slow_outcomes(rack, kept, lot)[0]
        droppable = [name for name in kept if reaches[name] is None or reaches[name] > limit]
        rows.append((list(kept), droppable))
        for name in droppable:
            rest = [other for other in kept if other != name]
            if rest not in waiting:
                waiting.append(rest)
    return rows


class DropChecks(Checks):
    def check_case(self, rack, kept, lot, name, limit):
        """The case has readings of all gauges, those outside of the lot are honest, and a Keeper drops the name."""
        case = drop_case(rack, kept, lot, name, limit)
        self.assertIsInstance(case, tuple)
        level, readings = case
        self.assertEqual(sorted(readings), sorted(rack.names()))
        for other in rack.names():
            self.assertTrue(other in lot or rack.gauge(other).honest(readings[other], level), other)
        keeper = Keeper(Rack(*[rack.gauge(other) for other in rack.names() if other in kept]), limit)
        keeper.take(readings)
        self.assertEqual(keeper.dropped(), [name])

    def check_reach(self, rack, kept, lot, name):
        """No case drops the gauge at its reach, and some case does with every smaller limit."""
        reach = honest_reach(rack, kept, lot, name)
        if reach is None:
            limits = [0, 1, 50, BIG]
        else:
            limits = sorted({0, reach // 2, reach - 1} - {-1}) if reach else []
            for limit in (reach, reach + 1, reach + BIG):
                self.refuses(NoCase, {"lot": [name]}, drop_case, rack, kept, lot, name, limit)
        for limit in limits:
            self.check_case(rack, kept, lot, name, limit)


class Reaches(DropChecks):
    def reaches(self, rack, kept, lot):
        return [honest_reach(rack, list(kept), list(lot), name) for name in kept]

    def test_hand_worked_without_liars(self):
        rack = rack_of("abc", 1, 4, 2)
        self.assertEqual(self.reaches(rack, "abc", ""), [3, 5, 3])
        self.assertEqual(self.reaches(rack, "ab", ""), [5, 5])
        self.assertEqual(self.reaches(rack, "cb", ""), [6, 6])
        self.assertEqual(self.reaches(rack, "b", ""), [0])

    def test_hand_worked_with_liars(self):
        rack = rack_of("abc", 1, 4, 2)
        self.assertEqual(self.reaches(rack, "abc", "c"), [5, 5, None])
        self.assertEqual(self.reaches(rack, "abc", "bc"), [None, None, None])
        self.assertEqual(self.reaches(rack, "ab", "c"), [5, 5])
        self.assertEqual(self.reaches(rack, "ab", "b"), [None, None])

    def test_no_gauge_is_farther_than_zero(self):
        for many in (1, 2, 5, 9):
            rack = rack_of(LETTERS[:many], *[0] * many)
            self.assertEqual(self.reaches(rack, LETTERS[:many], ""), [0] * many)
        for many in (3, 4, 9):
            rack = rack_of(LETTERS[:many], *[0] * many)
            self.assertEqual(self.reaches(rack, LETTERS[:many], "a"), [None] + [0] * (many - 1))

    def test_names_of_the_lot(self):
        rack = rack_of("abcd", 0, 1, 2, 3)
        for lot in (["b"], ["d", "b"], list("abcd")):
            for kept, reach in ((["b"], 0), (["b", "a"], None), (list("dcba"), None)):
                self.assertEqual(honest_reach(rack, kept, lot, "b"), reach)
        self.refuses(NoCase, {"lot": ["b"]}, drop_case, rack, ["b"], ["b"], "b", 0)

    def test_unknown_names(self):
        rack = rack_of("abc", 1, 1, 1)
        for kept, lot, name in ((["a", "b"], [], "c"), (["a", "b"], ["c"], "c"), (["a", "b"], [], "x"), ([], [], "a"),
                                (["a"], ["a", "b", "c"], "b"), (["a", "b"], [], ""), (["b"], ["b"], "rank")):
            self.refuses(UnknownGauge, {"name": name}, honest_reach, rack, kept, lot, name)
            for limit in (0, BIG):
                self.refuses(UnknownGauge, {"name": name}, drop_case, rack, kept, lot, name, limit)

    def test_one_sided_slacks(self):
        rack = Rack(CoarseGauge("a", 0, step=4), Gauge("b", 0), CoarseGauge("c", 1, step=3))
        for kept in itertools.chain.from_iterable(itertools.combinations("abc", many) for many in (1, 2, 3)):
            for many in range(4):
                for lot in itertools.combinations("abc", many):
                    reaches = slow_outcomes(rack, kept, lot)[0]
                    for name in kept:
                        self.assertEqual(honest_reach(rack, list(kept), list(lot), name), reaches[name],
                                         (kept, lot, name))

    def test_ties_in_rack_order(self):
        # Gauges without slack show the same, so that only the first one of them is dropped.
        rack = rack_of("abc", 0, 0, 0)
        self.assertEqual([honest_reach(rack, list("abc"), ["a", "b"], name) for name in "abc"], [None, None, None])
        rack = rack_of("abcd", 0, 0, 0, 0)
        self.assertEqual([honest_reach(rack, list("dcba"), ["c", "b"], name) for name in "abcd"], [None, None, None, 0])
        rack = rack_of("dbca", 0, 0, 0, 0)
        self.assertEqual([honest_reach(rack, list("abcd"), ["c", "b"], name) for name in "abcd"], [0, None, None, None])

    def test_drawn_racks(self):
        source = random.Random(48)
        for _ in range(70):
            rack = small_rack(source, source.randint(1, 5))
            lot = source.sample(rack.names(), source.randint(0, min(2, len(rack))))
            kept = source.sample(rack.names(), source.randint(1, min(4, len(rack))))
            reaches = slow_outcomes(rack, kept, lot)[0]
            for name in kept:
                self.assertEqual(honest_reach(rack, kept, lot, name), reaches[name], (kept, lot, name))
                self.check_reach(rack, kept, lot, name)

    def test_five_honest_gauges(self):
        source = random.Random(481)
        for _ in range(12):
            rack = small_rack(source, 5)
            reaches = slow_outcomes(rack, rack.names(), [])[0]
            self.assertEqual({name: honest_reach(rack, rack.names(), [], name) for name in rack.names()}, reaches)

    def test_three_liars_of_four(self):
        source = random.Random(482)
        for _ in range(4):
            rack = small_rack(source, 4)
            lot = source.sample(rack.names(), 3)
            reaches = slow_outcomes(rack, rack.names(), lot)[0]
            self.assertEqual({name: honest_reach(rack, rack.names(), lot, name) for name in rack.names()}, reaches)

    def test_the_order_of_the_lists_has_no_meaning(self):
        source = random.Random(483)
        rack = Rack(*[drawn_gauge(source, name) for name in "fadbce"])
        for lot in ([], ["a", "e"], ["b", "d", "c"]):
            first = [honest_reach(rack, rack.names(), lot, name) for name in "abcdef"]
            for _ in range(10):
                kept, turned = source.sample("abcdef", 6), source.sample(lot, len(lot))
                self.assertEqual([honest_reach(rack, kept, turned, name) for name in "abcdef"], first)

    def test_shared_faults_do_not_matter(self):
        gauges = [Gauge("a", 1), Gauge("b", 4), Gauge("c", 2)]
        for lot in ([], ["a"], ["c", "b"]):
            for name in "abc":
                self.assertEqual(honest_reach(Rack.of(gauges, (("a", "b"), ("c",))), list("abc"), lot, name),
                                 honest_reach(Rack.of(gauges), list("abc"), lot, name))

    def test_cases_with_gauges_that_are_not_kept(self):
        rack = Rack(Gauge("a", 3), CoarseGauge("b", 0, step=9), Gauge("c", 0), LateGauge("d", 1, late=2, pace=2),
                    Gauge("e", 1))
        for kept in (["a"], ["e", "b"], ["c", "d", "a"], ["a", "b", "c", "d"]):
            for lot in ([], ["b"], ["d", "e"], ["c", "b", "a"], list("abcde")):
                for name in kept:
                    self.check_reach(rack, kept, lot, name)

    def test_full_size(self):
        rack = full_rack()
        for lot in ([], ["a"], list("bdfh"), list("abcde"), list("abcdefgh"), list(LETTERS)):
            for kept in (list(LETTERS), list("hgfedcba"), list("ib"), ["c"]):
                for name in kept:
                    self.check_reach(rack, kept, lot, name)

    def test_long_numbers(self):
        rack = rack_of("abc", BIG, 4 * BIG, 2 * BIG)
        self.assertEqual(self.reaches(rack, "abc", ""), [3 * BIG, 5 * BIG, 3 * BIG])


class Tables(Checks):
    def test_hand_worked(self):
        rack = rack_of("abc", 1, 4, 2)
        self.assertEqual(drop_table(rack, 5, []), [(["a", "b", "c"], [])])
        for limit in (4, 3):
            self.assertEqual(drop_table(rack, limit, []), [(["a", "b", "c"], ["b"]), (["a", "c"], [])])
        self.assertEqual(drop_table(rack, 2, []), [
            (["a", "b", "c"], ["a", "b", "c"]), (["b", "c"], ["b", "c"]), (["a", "c"], ["a", "c"]),
            (["a", "b"], ["a", "b"]), (["c"], []), (["b"], []), (["a"], [])])
        self.assertEqual(drop_table(rack, 5, ["c"]), [(["a", "b", "c"], ["c"]), (["a", "b"], [])])

    def test_the_order_of_discovery(self):
        rack = rack_of("bca", 0, 0, 0)
        rows = [(["b", "c", "a"], ["b", "c", "a"]), (["c", "a"], ["c", "a"]), (["b", "a"], ["b", "a"]),
                (["b", "c"], ["b", "c"]), (["a"], []), (["c"], []), (["b"], [])]
        self.assertEqual(drop_table(rack, 0, ["a", "b", "c"]), rows)
        self.assertEqual(drop_table(rack, BIG, ["c", "a", "b"]), rows)

    def test_few_gauges(self):
        for limit in (0, 7):
            self.assertEqual(drop_table(Rack(), limit, []), [([], [])])
            for lot in ([], ["a"]):
                self.assertEqual(drop_table(rack_of("a", 3), limit, lot), [(["a"], [])])

    def test_drawn_racks(self):
        source = random.Random(49)
        for _ in range(60):
            rack = small_rack(source, source.randint(1, 4))
            lot = source.sample(rack.names(), source.randint(0, min(2, len(rack))))
            limit = source.randint(0, 4)
            table = drop_table(rack, limit, lot)
            self.assertEqual(table, slow_table(rack, limit, lot), (rack.names(), lot, limit))
            for row in table:
                self.assertEqual([type(row), type(row[0]), type(row[1])], [tuple, list, list])

    def test_full_size(self):
        rack = full_rack()
        for lot, limit, many in (([], 0, 511), (list("abcd"), 10 ** 60, 511), (list("abcd"), 10 ** 70, 16),
                                 (list(LETTERS), 10 ** 70, 511), ([], 10 ** 70, 1), (list("bcdefghi"), 0, 511)):
            table = drop_table(rack, limit, lot)
            self.assertEqual(len(table), many)
            self.assertEqual(len({tuple(kept) for kept, _ in table}), many)
            self.assertEqual(table[0][0], list(LETTERS))


class Paths(DropChecks):
    def check_path(self, rack, limit, lot, kept):
        path = drop_path(rack, limit, lot, kept)
        self.assertIsInstance(path, list)
        keeper = Keeper(rack, limit)
        for many, case in enumerate(path, start=1):
            level, readings = case
            self.assertIsInstance(case, tuple)
            self.assertEqual(sorted(readings), sorted(rack.names()))
            for name in rack.names():
                self.assertTrue(name in lot or rack.gauge(name).honest(readings[name], level))
            keeper.take(readings)
            self.assertEqual(len(keeper.dropped()), many)
        self.assertEqual(keeper.kept(), [name for name in rack.names() if name in kept])
        self.assertEqual(len(path), len(rack) - len(kept))

    def test_each_row_of_drawn_tables(self):
        source = random.Random(50)
        for _ in range(40):
            rack = Rack(*[drawn_gauge(source, name) for name in source.sample(LETTERS, source.randint(1, 5))])
            lot = some_of(source, rack.names())
            limit = source.randint(0, 5)
            reached = [kept for kept, _ in drop_table(rack, limit, lot)]
            for many in range(len(rack) + 1):
                for kept in itertools.combinations(rack.names(), many):
                    turned = source.sample(kept, many)
                    if list(kept) in reached:
                        self.check_path(rack, limit, lot, turned)
                    else:
                        self.refuses(NoCase, {"lot": list(kept)}, drop_path, rack, limit, lot, turned)

    def test_lists_without_a_row(self):
        rack = rack_of("cab", 1, 4, 2)
        for limit, lot, kept, told in ((6, [], ["a", "c"], ["c", "a"]), (0, [], [], []), (0, list("abc"), [], []),
                                       (BIG, ["b"], ["b", "c"], ["c", "b"]), (BIG, ["a"], ["b"], ["b"])):
            self.refuses(NoCase, {"lot": told}, drop_path, rack, limit, lot, kept)

    def test_unknown_names_are_left_out(self):
        rack = rack_of("cab", 1, 4, 2)
        for kept, told in ((["x"], []), (["a", "x", "c"], ["c", "a"]), (["", "b", "a", "c", "d"], ["c", "a", "b"]),
                           (["rank", "b"], ["b"])):
            for lot in ([], list("abc")):
                self.refuses(NoCase, {"lot": told}, drop_path, rack, 0, lot, kept)
        self.refuses(NoCase, {"lot": []}, drop_path, Rack(), 0, [], ["a"])

    def test_the_list_of_all_names(self):
        rack = rack_of("cab", 1, 4, 2)
        for kept in (list("cab"), list("abc")):
            self.assertEqual(drop_path(rack, 0, ["a"], kept), [])
        self.assertEqual(drop_path(Rack(), 0, [], []), [])

    def test_full_size(self):
        rack = full_rack()
        for lot, limit in (([], 0), (list("bdfh"), 10 ** 60), (list("abcdefgh"), 10 ** 70), (list(LETTERS), 10 ** 60)):
            self.check_path(rack, limit, lot, ["i"])
            self.check_path(rack, limit, lot, ["g", "i", "c"])


class SafeLimits(Checks):
    def dropped_ever(self, rack, limit, lot):
        return {name for _, droppable in drop_table(rack, limit, lot) for name in droppable if name not in lot}

    def test_hand_worked(self):
        rack = rack_of("abc", 1, 4, 2)
        rows = (([], 5), (["a"], 6), (["b"], 3), (["c"], 5), (["a", "b"], None), (["c", "b"], None), (list("bca"), 0))
        for lot, limit in rows:
            self.assertEqual(safe_limit(rack, lot), limit, lot)
        self.assertEqual(safe_limit(rack_of("ab", 3, 4), []), 7)
        self.assertIsNone(safe_limit(rack_of("ab", 3, 4), ["b"]))

    def test_racks_without_an_honest_gauge_and_of_one(self):
        self.assertEqual(safe_limit(Rack(), []), 0)
        for lot in ([], ["a"]):
            self.assertEqual(safe_limit(rack_of("a", 9), lot), 0)
        self.assertEqual(safe_limit(full_rack(), list(LETTERS)), 0)

    def test_the_limit_and_one_less(self):
        source = random.Random(501)
        found = []
        for _ in range(60):
            rack = Rack(*[drawn_gauge(source, name) for name in source.sample(LETTERS, source.randint(1, 6))])
            lot = some_of(source, rack.names())
            source.shuffle(lot)
            limit = safe_limit(rack, lot)
            found.append(limit)
            if limit is None:
                self.assertTrue(self.dropped_ever(rack, BIG, lot))
            else:
                self.assertEqual(self.dropped_ever(rack, limit, lot), set())
                self.assertTrue(limit == 0 or self.dropped_ever(rack, limit - 1, lot))
        self.assertIn(None, found)
        self.assertTrue(len(set(found)) > 5)

    def test_some_of_the_lot_is_enough(self):
        source = random.Random(502)
        for _ in range(40):
            rack = Rack(*[drawn_gauge(source, name) for name in LETTERS[:source.randint(2, 6)]])
            lot = some_of(source, rack.names())[:2]
            honest = [name for name in rack.names() if name not in lot]
            reaches = [honest_reach(rack, honest + list(some), lot, name) for many in range(len(lot) + 1)
                       for some in itertools.combinations(lot, many) for name in honest]
            self.assertEqual(safe_limit(rack, lot), None if None in reaches else max(reaches, default=0))

    def test_full_size(self):
        rack = full_rack()
        for many in range(10):
            limit = safe_limit(rack, list(LETTERS[:many]))
            self.assertEqual(limit is None, many in (5, 6, 7, 8))
            if limit is not None:
                self.assertEqual(self.dropped_ever(rack, limit, list(LETTERS[:many])), set())


class Misses(Checks):
    def test_hand_worked(self):
        rack = rack_of("abc", 1, 4, 2)
        rows = ((5, [], Miss(2, 2)), (3, [], Miss(2, 2)), (2, [], Miss(4, 4)), (5, ["c"], Miss(4, 4)),
                (6, ["a"], Miss(4, 4)), (5, ["a"], Miss(None, None)), (0, ["b", "c"], Miss(None, None)))
        for limit, lot, miss in rows:
            self.assertEqual(keeper_miss(rack, limit, lot), miss, (limit, lot))
        self.assertIsInstance(keeper_miss(rack, 6, []), Miss)

    def test_both_sides(self):
        rack = Rack(CoarseGauge("a", 1, step=4), CoarseGauge("b", 0, step=3))
        self.assertEqual(keeper_miss(rack, BIG, []), Miss(0, 4))
        self.assertEqual(keeper_miss(rack, 0, []), Miss(1, 4))
        self.assertEqual(keeper_miss(rack, BIG, ["b"]), Miss(None, None))
        rack = Rack(CoarseGauge("a", 1, step=4), CoarseGauge("b", 0, step=3), Gauge("c", 0), Gauge("d", 7))
        self.assertEqual(keeper_miss(rack, BIG, []), Miss(0, 4))

    def test_few_gauges(self):
        for limit in (0, 5):
            self.assertEqual(keeper_miss(Rack(), limit, []), Miss(None, None))
            self.assertEqual(keeper_miss(Rack(CoarseGauge("a", 2, step=3)), limit, []), Miss(2, 4))
            self.assertEqual(keeper_miss(rack_of("a", 2), limit, ["a"]), Miss(None, None))

    def test_drawn_racks(self):
        source = random.Random(503)
        for _ in range(60):
            rack = small_rack(source, source.randint(1, 4))
            lot = source.sample(rack.names(), source.randint(0, min(2, len(rack))))
            limit = source.randint(0, 5)
            ends = [slow_outcomes(rack, kept, lot)[1:] for kept, _ in slow_table(rack, limit, lot)]
            below, above = -min(low for low, _ in ends), max(high for _, high in ends)
            self.assertEqual(keeper_miss(rack, limit, lot), Miss(above if above < ENDLESS else None,
                                                                 below if below < ENDLESS else None))

    def test_it_is_the_middle_over_all_rows(self):
        source = random.Random(504)
        for _ in range(30):
            rack = Rack(*[drawn_gauge(source, name) for name in source.sample(LETTERS, source.randint(1, 7))])
            limit = source.randint(0, 8)
            sides = []
            for side in (1, 0):
                shown = {name: rack.gauge(name).extremes(0)[side] for name in rack.names()}
                sides.append(max([abs(Rank.median(*[Leaf(name) for name in kept]).answer(shown))
                                  for kept, _ in drop_table(rack, limit, [])]))
            self.assertEqual(keeper_miss(rack, limit, []), Miss(*sides))

    def test_full_size(self):
        far = 10 ** 60 - 1
        self.assertEqual(keeper_miss(full_rack(), BIG, []), Miss(far + 4, far + 8))
        self.assertEqual(keeper_miss(full_rack(), 0, []), Miss(far + 8, far + 16))
        self.assertEqual(keeper_miss(full_rack(), BIG, list("abcd")), Miss(far + 8, far + 16))
        self.assertEqual(keeper_miss(full_rack(), 0, list("abcd")), Miss(None, None))
        self.assertEqual(keeper_miss(full_rack(), BIG, list(LETTERS)), Miss(None, None))


if __name__ == "__main__":
    unittest.main()
