"""Points 17 to 19."""

import unittest

from gaugemiss.errors import BadGauge
from gaugemiss.gauges import CoarseGauge, Gauge, LateCoarseGauge, LateGauge
from gaugemiss.stretch import Stretch
from tests.checks import BIG, Checks


def kinds(name="a", radius=2, step=5, late=3, pace=4):
    """A gauge of each kind, with these numbers as far as the kind has them."""
    return [Gauge(name, radius), CoarseGauge(name, radius, step=step), LateGauge(name, radius, late=late, pace=pace),
            LateCoarseGauge(name, radius, step=step, late=late, pace=pace)]


def makers(step=1, late=0, pace=0):
    return [lambda name, radius: Gauge(name, radius), lambda name, radius: CoarseGauge(name, radius, step=step),
            lambda name, radius: LateGauge(name, radius, late=late, pace=pace),
            lambda name, radius: LateCoarseGauge(name, radius, step=step, late=late, pace=pace)]


class Creating(Checks):
    def test_attributes(self):
        self.assertEqual(vars(Gauge(name="abc", radius=0)), {"name": "abc", "radius": 0})
        self.assertEqual(vars(CoarseGauge("b", 1, step=2)), {"name": "b", "radius": 1, "step": 2})
        self.assertEqual(vars(LateGauge("c", 3, late=4, pace=5)), {"name": "c", "radius": 3, "late": 4, "pace": 5})
        told = {"name": "d", "radius": 6, "step": 7, "late": 8, "pace": 9}
        self.assertEqual(vars(LateCoarseGauge("d", 6, step=7, late=8, pace=9)), told)

    def test_the_longest_name(self):
        self.assertEqual([each.LONGEST for each in (Gauge, CoarseGauge, LateGauge, LateCoarseGauge)], [12] * 4)
        self.assertEqual(Gauge("a", 0).LONGEST, 12)

    def test_names_that_are_taken(self):
        names = ("a", "z", "az", "abcdefghijkl", "mnopqrstuvwx", "yz", "ranks", "ran", "trims", "weig", "togethers",
                 "rankrank", "none", "step", "late", "pace")
        for name in names:
            self.assertEqual([each.name for each in kinds(name)], [name] * 4)

    def test_names_that_are_refused(self):
        names = ("", "abcdefghijklm", "A", "aB", "a1", "1", "a b", " ", "a ", " a", "a\n", "a_b", "a-b", "\u00e4",
                 "\u00df", "\uff41", "`", "{", "rank", "trim", "weigh", "together", None, 5, 0, b"a", ["a"], ("a",),
                 {"a": 1}, {"a"}, ["a", "b"])
        for make in makers():
            for name in names:
                self.refuses(BadGauge, {"name": name}, make, name, 1)

    def test_a_negative_radius(self):
        for make in makers():
            self.assertEqual(make("a", 0).radius, 0)
            self.assertEqual(make("a", BIG).radius, BIG)
            for radius in (-1, -2, -BIG):
                self.refuses(BadGauge, {"name": "a"}, make, "a", radius)
                self.refuses(BadGauge, {"name": "trim"}, make, "trim", radius)

    def test_too_small_a_step(self):
        for make in (makers(step=1)[1], makers(step=1)[3]):
            self.assertEqual(make("a", 0).step, 1)
        for step in (0, -1, -BIG):
            for make in (makers(step=step)[1], makers(step=step)[3]):
                self.refuses(BadGauge, {"name": "ab"}, make, "ab", 3)

    def test_too_small_a_late_or_pace(self):
        for make in (makers()[2], makers()[3]):
            self.assertEqual((make("a", 0).late, make("a", 0).pace), (0, 0))
        for late, pace in ((-1, 0), (0, -1), (-1, -1), (-BIG, 5), (5, -BIG)):
            some = makers(late=late, pace=pace)
            for make in some[2:]:
                self.refuses(BadGauge, {"name": "ab"}, make, "ab", 3)

    def test_the_further_numbers_are_passed_by_keyword(self):
        self.assertRaises(TypeError, CoarseGauge, "a", 1, 5)
        self.assertRaises(TypeError, CoarseGauge, "a", 1)
        self.assertRaises(TypeError, LateGauge, "a", 1, 3, 4)
        self.assertRaises(TypeError, LateGauge, "a", 1, late=3)
        self.assertRaises(TypeError, LateGauge, "a", 1, pace=3)
        self.assertRaises(TypeError, LateCoarseGauge, "a", 1, 5, 3, 4)
        self.assertRaises(TypeError, LateCoarseGauge, "a", 1, late=3, pace=4)

    def test_of_which_classes_each_kind_is(self):
        classes = (Gauge, CoarseGauge, LateGauge, LateCoarseGauge)
        are = [[isinstance(each, kind) for kind in classes] for each in kinds()]
        self.assertEqual(are, [[True, False, False, False], [True, True, False, False], [True, False, True, False],
                               [True, True, True, True]])
        self.assertEqual(CoarseGauge.__bases__, (Gauge,))
        self.assertEqual(LateGauge.__bases__, (Gauge,))
        self.assertEqual(LateCoarseGauge.__bases__, (LateGauge, CoarseGauge))

    def test_the_classes_define_what_the_interface_lists(self):
        listed = {Gauge: ["LONGEST", "width", "slack_below", "slack_above", "told", "honest", "extremes"],
                  CoarseGauge: ["slack_above"], LateGauge: ["slack_below", "slack_above"], LateCoarseGauge: []}
        for kind, names in listed.items():
            self.assertLessEqual(set(names), set(vars(kind)))


class Slacks(Checks):
    def test_slacks_and_width(self):
        slacks = [(each.slack_below(), each.slack_above(), each.width) for each in kinds()]
        self.assertEqual(slacks, [(2, 2, 4), (2, 6, 8), (14, 14, 28), (14, 18, 32)])

    def test_the_least_numbers(self):
        slacks = [(each.slack_below(), each.slack_above(), each.width) for each in kinds("a", 0, 1, 0, 0)]
        self.assertEqual(slacks, [(0, 0, 0)] * 4)
        self.assertEqual([each.width for each in kinds("a", 0, 2, 0, 7)], [0, 1, 0, 1])
        self.assertEqual([each.width for each in kinds("a", 0, 1, 7, 0)], [0, 0, 0, 0])
        self.assertEqual([each.width for each in kinds("a", 0, 1, 1, 1)], [0, 0, 2, 2])

    def test_long_numbers(self):
        slacks = [(each.slack_below(), each.slack_above()) for each in kinds("a", BIG, BIG, 2, BIG)]
        self.assertEqual(slacks, [(BIG, BIG), (BIG, 2 * BIG - 1), (3 * BIG, 3 * BIG), (3 * BIG, 4 * BIG - 1)])

    def test_told(self):
        for reading in (-100, -1, 0, 7, BIG):
            for each in kinds():
                stretch = Stretch(reading - each.slack_below(), reading + each.slack_above())
                self.assertEqual(each.told(reading), stretch)
        ends = [(each.told(10).low, each.told(10).high) for each in kinds()]
        self.assertEqual(ends, [(8, 12), (8, 16), (-4, 24), (-4, 28)])

    def test_honesty_at_the_edges(self):
        edges = [(8, 12), (8, 16), (-4, 24), (-4, 28)]
        for each, (low, high) in zip(kinds(), edges):
            self.assertIs(each.honest(10, low), True)
            self.assertIs(each.honest(10, high), True)
            self.assertIs(each.honest(10, low - 1), False)
            self.assertIs(each.honest(10, high + 1), False)
            self.assertIs(each.honest(reading=10, level=10), True)

    def test_extremes(self):
        self.assertEqual([each.extremes(10) for each in kinds()], [(8, 12), (4, 12), (-4, 24), (-8, 24)])
        self.assertEqual(CoarseGauge("a", 1, step=5).extremes(10), (5, 11))
        self.assertEqual(Gauge("a", 0).extremes(-3), (-3, -3))

    def test_every_reading_between_the_extremes_is_honest_and_no_other(self):
        for each in kinds("a", 1, 3, 2, 1):
            for level in (-7, 0, 4):
                honest = [reading for reading in range(-30, 31) if each.honest(reading, level)]
                least, greatest = each.extremes(level)
                self.assertEqual(honest, list(range(least, greatest + 1)))


if __name__ == "__main__":
    unittest.main()
