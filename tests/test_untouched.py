"""Point 3."""

import copy
import unittest

from gaugemiss import sharing
from gaugemiss.errors import GaugeError
from gaugemiss.gauges import Gauge, Rack
from gaugemiss.stretch import Levels, Stretch
from tests.checks import Checks, stretches


class Arguments(Checks):
    def test_the_functions_of_sharing_leave_the_list_as_it_was(self):
        ends = [(5, 9), (0, 4), (2, 6), (0, 4), (30, 31)]
        calls = [lambda some: sharing.depth(some, 3), lambda some: sharing.shared(some, 2), sharing.most_shared,
                 sharing.least_liars, sharing.apart_lots, lambda some: sharing.possible(some, 2),
                 lambda some: sharing.sure_liars(some, 2), lambda some: sharing.sure_honest(some, 2), sharing.clashes]
        for call in calls:
            some = stretches(*ends)
            call(some)
            self.assertEqual([(each.low, each.high) for each in some], ends)

    def test_levels_leave_the_list_as_it_was(self):
        some = stretches((5, 9), (0, 4), (2, 6))
        Levels.of(some)
        self.assertEqual([(each.low, each.high) for each in some], [(5, 9), (0, 4), (2, 6)])

    def test_racks_leave_lists_and_dicts_as_they_were(self):
        given = [Gauge("b", 1), Gauge("a", 2), Gauge("c", 3)]
        rack = Rack.of(given, together=(("c", "b"),))
        self.assertEqual([each.name for each in given], ["b", "a", "c"])
        readings, names = {"c": 9, "b": 8, "a": 50}, ["c", "a", "c"]
        rack.possible(readings, 1)
        rack.fused(readings, 1)
        rack.blame(readings, 8)
        rack.fault_count(names)
        self.assertEqual(list(readings.items()), [("c", 9), ("b", 8), ("a", 50)])
        self.assertEqual(names, ["c", "a", "c"])

    def test_calls_that_raise_leave_everything_as_it_was(self):
        rack, levels = Rack(Gauge("b", 1), Gauge("a", 2), together=(("b", "a"),)), Levels(Stretch(1, 2))
        readings, stretch = {"a": 4, "x": 5}, Stretch(1, 2)
        before = copy.deepcopy([rack.names(), rack.faults(), readings, levels.ends(), vars(stretch)])
        calls = [lambda: rack.possible(readings, 0), lambda: rack.fused(readings, 0), lambda: rack.blame(readings, 0),
                 lambda: rack.fault_count(["a", "x"]), lambda: rack.gauge("x"), lambda: levels.grown(0, -1),
                 lambda: stretch.grown(0, -1), lambda: stretch & Stretch(5, 6), lambda: stretch.around(0, -1)]
        for call in calls:
            self.assertRaises(GaugeError, call)
        self.assertEqual([rack.names(), rack.faults(), readings, levels.ends(), vars(stretch)], before)


class HandedIn(Checks):
    def test_a_list_of_stretches(self):
        some = stretches((1, 2), (5, 6))
        levels = Levels.of(some)
        some[0].low = -70
        some.append(Stretch(8, 9))
        del some[1]
        self.assertEqual(levels.ends(), [(1, 2), (5, 6)])

    def test_a_list_of_gauges_and_groups(self):
        given, groups = [Gauge("b", 1), Gauge("a", 2)], (["b", "a"],)
        rack = Rack.of(given, together=groups)
        given.pop()
        given.append(Gauge("c", 1))
        groups[0].pop()
        self.assertEqual([rack.names(), rack.faults(), len(rack)], [["b", "a"], [["b", "a"]], 2])
        self.assertEqual(rack.fault_count(["a", "b"]), 1)
        self.assertNotIn("c", rack)


class Returned(Checks):
    def test_ends_and_pieces(self):
        levels = Levels(*stretches((1, 2), (5, 6)))
        levels.ends().append((8, 9))
        levels.ends()[0] = (0, 0)
        list(levels).pop()
        self.assertEqual(levels.ends(), [(1, 2), (5, 6)])
        levels.hull().low = -9
        self.assertEqual(levels.hull(), Stretch(1, 6))

    def test_results_of_sharing(self):
        some = stretches((5, 9), (0, 4), (2, 6))
        for call in (sharing.apart_lots, sharing.clashes, lambda entries: sharing.sure_honest(entries, 2)):
            before = call(some)
            call(some).append(99)
            call(some)[:] = []
            self.assertEqual(call(some), before)
        sharing.apart_lots(some)[0].append(99)
        self.assertEqual(sharing.apart_lots(some), [[1, 0], [2]])

    def test_lists_of_a_rack(self):
        rack = Rack(Gauge("b", 1), Gauge("a", 2), Gauge("c", 2), together=(("a", "b"),))
        rack.names().append("x")
        rack.names().clear()
        rack.faults().append(["x"])
        rack.faults()[0].append("c")
        rack.blame({"a": 9}, 0).append("x")
        self.assertEqual(rack.names(), ["b", "a", "c"])
        self.assertEqual(rack.faults(), [["b", "a"], ["c"]])
        self.assertEqual(rack.blame({"a": 9}, 0), ["a"])
        self.assertEqual([len(rack), rack.fault_count(["b", "c"])], [3, 2])


if __name__ == "__main__":
    unittest.main()
