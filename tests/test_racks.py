"""Points 20 to 23."""

import itertools
import unittest

from gaugemiss.errors import BadLiars, DuplicateGauge, NoLevel, UnknownGauge
from gaugemiss.gauges import CoarseGauge, Gauge, LateGauge, Rack
from gaugemiss.stretch import Levels
from tests.checks import BIG, Checks


def gauges(letters, radius=2):
    return [Gauge(letter, radius) for letter in letters]


def rack_of(letters, *groups):
    """A rack of gauges with one letter each; a group is a text of such letters."""
    return Rack(*gauges(letters), together=tuple(tuple(group) for group in groups))


class Creating(Checks):
    def test_racks_of_none_to_nine_gauges_and_somewhat_more(self):
        for many in range(12):
            letters = "kbcaefghijdl"[:many]
            for rack in (Rack(*gauges(letters)), Rack.of(gauges(letters))):
                self.assertIsInstance(rack, Rack)
                self.assertEqual(rack.names(), list(letters))
                self.assertEqual(len(rack), many)
                self.assertEqual(rack.faults(), [[letter] for letter in letters])
                self.assertEqual([letter in rack for letter in "kbcaefghijdl"], [True] * many + [False] * (12 - many))

    def test_gauges_by_name(self):
        some = [Gauge("b", 1), CoarseGauge("a", 2, step=3), LateGauge("c", 3, late=1, pace=1)]
        rack = Rack(*some)
        self.assertEqual([rack.gauge(name) for name in ("a", "b", "c")], [some[1], some[0], some[2]])
        for name in ("d", "", "B", "ab", "together"):
            self.refuses(UnknownGauge, {"name": name}, rack.gauge, name)
            self.assertNotIn(name, rack)
        self.refuses(UnknownGauge, {"name": "a"}, Rack().gauge, "a")

    def test_the_first_repeated_gauge(self):
        for letters, name in (("aa", "a"), ("abcb", "b"), ("abba", "b"), ("abab", "a"), ("cabbca", "b")):
            self.refuses(DuplicateGauge, {"name": name}, Rack, *gauges(letters))
            self.refuses(DuplicateGauge, {"name": name}, Rack.of, gauges(letters))
            self.refuses(DuplicateGauge, {"name": name}, Rack, *gauges(letters), together=(("x",), ("a", "a")))

    def test_the_first_wrong_name_of_a_group(self):
        rows = ((("ax",), UnknownGauge, "x"), (("ab", "ca"), DuplicateGauge, "a"), (("aa",), DuplicateGauge, "a"),
                (("ab", "ba"), DuplicateGauge, "b"), (("aax",), DuplicateGauge, "a"), (("xaa",), UnknownGauge, "x"),
                (("axay",), UnknownGauge, "x"), (("a", "b", "b"), DuplicateGauge, "b"), (("yx",), UnknownGauge, "y"),
                (("", "y", "xx"), UnknownGauge, "y"), (("ab", "c", "xa"), UnknownGauge, "x"), (("xx",), UnknownGauge, "x"))
        for groups, kind, name in rows:
            together = tuple(tuple(group) for group in groups)
            self.refuses(kind, {"name": name}, Rack, *gauges("abc"), together=together)
            self.refuses(kind, {"name": name}, Rack.of, gauges("abc"), together)
            self.refuses(kind, {"name": name}, Rack.of, gauges("abc"), together=together)
        self.refuses(UnknownGauge, {"name": "a"}, Rack, together=(("a",),))

    def test_of_takes_groups(self):
        rack = Rack.of(gauges("abc"), (("c", "a"),))
        self.assertEqual(rack.faults(), [["a", "c"], ["b"]])
        self.assertEqual(Rack.of(gauges=gauges("abc"), together=(("c", "a"),)).faults(), [["a", "c"], ["b"]])


class Faults(Checks):
    def test_groups_of_no_name_and_of_one_name_change_nothing(self):
        self.assertEqual(rack_of("cab", "", "a", "").faults(), [["c"], ["a"], ["b"]])
        self.assertEqual(rack_of("", "").faults(), [])
        self.assertEqual(rack_of("").faults(), [])

    def test_names_in_rack_order_and_faults_by_their_first_gauge(self):
        self.assertEqual(rack_of("abcd", "db").faults(), [["a"], ["b", "d"], ["c"]])
        self.assertEqual(rack_of("dcba", "ad", "bc").faults(), [["d", "a"], ["c", "b"]])
        self.assertEqual(rack_of("abcdef", "fc", "eab").faults(), [["a", "b", "e"], ["c", "f"], ["d"]])
        self.assertEqual(rack_of("ihgfedcba", "abcdefghi").faults(), [list("ihgfedcba")])

    def test_fault_count(self):
        rack = rack_of("abcdef", "fc", "eab")
        for names, count in (("", 0), ("a", 1), ("abe", 1), ("ac", 2), ("dca", 3), ("cf", 1), ("cfcf", 1), ("aaa", 1),
                             ("fedcbafedcba", 3), ("d", 1), ("dd", 1)):
            self.assertEqual(rack.fault_count(list(names)), count, names)
        self.assertEqual(Rack().fault_count([]), 0)
        self.assertEqual(Rack(*gauges("abc")).fault_count(names=["c", "a", "c"]), 2)

    def test_fault_count_of_unknown_names(self):
        rack = rack_of("abc", "ab")
        for names, name in ((["z"], "z"), (["a", "z", "y"], "z"), (["z", "a", "y"], "z"), (["y", "z", "y"], "y")):
            self.refuses(UnknownGauge, {"name": name}, rack.fault_count, names)
        self.refuses(UnknownGauge, {"name": "a"}, Rack().fault_count, ["a"])


class Readings(Checks):
    RACK = Rack(*gauges("abc"))
    TOLD = {"a": 10, "b": 13, "c": 40}

    def test_ordinary(self):
        self.assertEqual(self.RACK.possible(self.TOLD, 1).ends(), [(11, 12)])
        self.assertEqual(self.RACK.fused(self.TOLD, 1), 11)
        self.assertEqual(self.RACK.blame(self.TOLD, 12), ["c"])
        self.assertEqual(self.RACK.possible(readings=self.TOLD, liars=2).ends(), [(8, 15), (38, 42)])
        self.assertEqual(self.RACK.fused(readings=self.TOLD, liars=2), 25)
        self.assertEqual(self.RACK.blame(readings=self.TOLD, level=50), ["a", "b", "c"])

    def test_each_small_case_level_by_level(self):
        kinds = [Gauge("b", 1), CoarseGauge("a", 0, step=2), LateGauge("d", 0, late=1, pace=2), Gauge("c", 0)]
        for groups in ((), (("a", "b"),), (("c", "b"), ("d", "a")), (("d", "b", "c"),)):
            rack = Rack(*kinds, together=groups)
            for shown in itertools.product((None, 0, 3, 5), repeat=4):
                readings = {name: reading for name, reading in zip("abcd", shown) if reading is not None}
                self.check_levels(rack, readings)

    def check_levels(self, rack, readings):
        present = [fault for fault in rack.faults() if any(name in readings for name in fault)]
        for level in range(-5, 11):
            liars = [name for name in rack.names() if name in readings]
            liars = [name for name in liars if not rack.gauge(name).honest(readings[name], level)]
            self.assertEqual(rack.blame(readings, level), liars)
        for liars in range(len(present)):
            levels = [level for level in range(-5, 11) if rack.fault_count(rack.blame(readings, level)) <= liars]
            found = rack.possible(readings, liars)
            self.assertIsInstance(found, Levels)
            self.assertEqual([level for piece in found for level in range(piece.low, piece.high + 1)], levels)
            if levels:
                self.assertEqual(rack.fused(readings, liars), (levels[0] + levels[-1]) // 2)
            else:
                self.refuses(NoLevel, {}, rack.fused, readings, liars)
        for liars in (-1, len(present), len(present) + 1):
            self.refuses(BadLiars, {"number": liars}, rack.possible, readings, liars)
            self.refuses(BadLiars, {"number": liars}, rack.fused, readings, liars)

    def test_a_shared_fault_counts_once(self):
        readings = {"a": 0, "b": 0, "c": 20, "d": 20}
        self.assertEqual(rack_of("abcd").possible(readings, 1).ends(), [])
        self.assertEqual(rack_of("abcd", "ab").possible(readings, 1).ends(), [(18, 22)])
        self.assertEqual(rack_of("abcd", "cd").possible(readings, 1).ends(), [(-2, 2)])
        self.assertEqual(rack_of("abcd", "ab", "cd").possible(readings, 1).ends(), [(-2, 2), (18, 22)])
        self.assertEqual(rack_of("abcd", "abc").possible(readings, 1).ends(), [(18, 22)])

    def test_a_fault_that_no_level_fits_is_present(self):
        rack = rack_of("abcd", "ab")
        readings = {"a": 0, "b": 20, "c": 20}
        self.assertEqual(rack.possible(readings, 0).ends(), [])
        self.assertEqual(rack.possible(readings, 1).ends(), [(18, 22)])
        self.refuses(NoLevel, {}, rack.fused, readings, 0)
        self.refuses(BadLiars, {"number": 2}, rack.possible, readings, 2)
        self.assertEqual(rack.possible({"a": 0, "b": 20}, 0).ends(), [])
        self.assertEqual(rack.possible({"a": 0, "b": 3}, 0).ends(), [(1, 2)])
        self.assertEqual(rack.blame(readings, 1), ["b", "c"])

    def test_missing_readings(self):
        self.assertEqual(self.RACK.possible({"c": 40, "b": 13}, 1).ends(), [(11, 15), (38, 42)])
        self.assertEqual(self.RACK.blame({"c": 40, "b": 13}, 0), ["b", "c"])
        self.assertEqual(self.RACK.fused({"c": -5}, 0), -5)

    def test_the_middle_is_rounded_down(self):
        self.assertEqual(Rack(CoarseGauge("a", 0, step=2)).fused({"a": -3}, 0), -3)
        self.assertEqual(Rack(CoarseGauge("a", 1, step=2)).fused({"a": -1}, 0), -1)
        self.assertEqual(Rack(CoarseGauge("a", 1, step=4)).fused({"a": -1}, 0), 0)

    def test_no_readings(self):
        for rack in (Rack(), self.RACK):
            for liars in (-1, 0, 1, 3):
                self.refuses(BadLiars, {"number": liars}, rack.possible, {}, liars)
                self.refuses(BadLiars, {"number": liars}, rack.fused, {}, liars)
            self.assertEqual(rack.blame({}, 5), [])

    def test_numbers_of_liars_at_and_beyond_the_limits(self):
        for call in (self.RACK.possible, self.RACK.fused):
            for liars in (-BIG, -1, 3, 4, BIG):
                self.refuses(BadLiars, {"number": liars}, call, self.TOLD, liars)
            self.refuses(BadLiars, {"number": 2}, call, {"a": 1, "b": 1}, 2)
            self.refuses(BadLiars, {"number": 1}, call, {"a": 1}, 1)
        self.assertEqual(self.RACK.possible(self.TOLD, 0), Levels())
        self.refuses(NoLevel, {}, self.RACK.fused, self.TOLD, 0)

    def test_of_several_unknown_names_the_alphabetically_first_one(self):
        for rack, readings, name in ((self.RACK, {"z": 1, "a": 2, "e": 3, "f": 4}, "e"), (self.RACK, {"d": 1}, "d"),
                                     (self.RACK, {"zb": 1, "za": 2, "b": 5}, "za"), (Rack(), {"b": 1, "a": 2}, "a")):
            self.refuses(UnknownGauge, {"name": name}, rack.blame, readings, 0)
            for liars in (-1, 0, 1, 9):
                self.refuses(UnknownGauge, {"name": name}, rack.possible, readings, liars)
                self.refuses(UnknownGauge, {"name": name}, rack.fused, readings, liars)

    def test_long_numbers_and_many_gauges(self):
        rack = Rack(*gauges("abcdefghijk", BIG))
        readings = {letter: at * BIG for at, letter in enumerate("abcdefghijk")}
        self.assertEqual(rack.possible(readings, 8).ends(), [(k * BIG, k * BIG) for k in range(1, 10)])
        self.assertEqual(rack.possible(readings, 9).ends(), [(0, 10 * BIG)])
        self.assertEqual(rack.fused(readings, 8), 5 * BIG)
        self.assertEqual(rack.blame(readings, 5 * BIG), list("abcdhijk"))


if __name__ == "__main__":
    unittest.main()
