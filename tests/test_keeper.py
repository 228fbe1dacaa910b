"""Points 45 and 46."""

import random
import unittest

from gaugemiss.dropping import Keeper
from gaugemiss.errors import BadLimit, MissingReading, NoLevel
from gaugemiss.gauges import CoarseGauge, Gauge, Rack
from gaugemiss.rules import Leaf, Rank
from tests.checks import BIG, Checks
from tests.drawing import LETTERS


def rack_of(letters):
    return Rack(*[Gauge(letter, at) for at, letter in enumerate(letters)])


def taken(letters, limit, *rows):
    """A keeper of these gauges, and its answers to rows of numbers in the order of the letters."""
    keeper = Keeper(rack_of(letters), limit)
    return keeper, [keeper.take(dict(zip(letters, row))) for row in rows]


class Taking(Checks):
    def state(self, keeper, kept, dropped):
        self.assertEqual([keeper.kept(), keeper.dropped()], [list(kept), list(dropped)])

    def test_the_example(self):
        keeper = Keeper(Rack(Gauge("a", 1), Gauge("b", 4), Gauge("c", 2)), 5)
        self.assertEqual(keeper.take({"a": 10, "b": 12, "c": 30}), 12)
        self.state(keeper, "ab", "c")

    def test_a_new_keeper_keeps_all_gauges(self):
        self.state(Keeper(rack_of("cab"), 0), "cab", "")
        self.state(Keeper(Rack(), 0), "", "")

    def test_the_answer_is_the_lower_one_of_two_in_the_middle(self):
        for letters, row, answer in (("a", (7,), 7), ("ab", (9, 4), 4), ("ab", (4, 9), 4), ("abc", (9, 4, 6), 6),
                                     ("abcd", (1, 7, 3, 5), 3), ("abcd", (5, 5, 5, -9), 5),
                                     ("abcde", (5, 1, 4, 2, 3), 3)):
            self.assertEqual(taken(letters, 100, row)[1], [answer])

    def test_ties_drop_the_first_one_in_rack_order(self):
        rows = (("abc", (10, 0, -10), "a"), ("abc", (0, -10, 10), "b"), ("abc", (-10, 10, 0), "a"),
                ("cba", (10, 0, -10), "c"),
                ("zya", (0, 10, -10), "y"), ("abcd", (0, 9, 0, 9), "b"), ("abcd", (9, 0, 0, -9), "a"),
                ("bacd", (0, 0, 7, 7), "c"), ("abcd", (0, -3, 0, 3), "b"))
        for letters, row, first in rows:
            keeper, answers = taken(letters, 2, row)
            self.assertEqual(answers, [0])
            self.state(keeper, letters.replace(first, ""), first)

    def test_a_distance_equal_to_the_limit_is_kept(self):
        for row in ((0, 5, 0), (0, -5, 0), (0, 5, -5)):
            keeper, _ = taken("abc", 5, row)
            self.state(keeper, "abc", "")
            keeper, _ = taken("abc", 4, row)
            self.state(keeper, "ac", "b")

    def test_at_most_one_gauge_is_dropped_in_a_tick(self):
        keeper, answers = taken("abcde", 1, (0, 90, -80, 70, 0), (0, 90, -80, 70, 0), (0, 0, -80, 70, 0))
        self.assertEqual(answers, [0, 0, 0])
        self.state(keeper, "ae", "bcd")
        for limit, dropped in ((89, "b"), (90, "")):
            self.assertEqual(taken("abcde", limit, (0, 90, -80, 70, 0))[0].dropped(), list(dropped))

    def test_a_dropped_gauge_stays_dropped_and_counts_no_more(self):
        keeper, answers = taken("abc", 3, (5, 6, 10), (5, 6, 6), (1, 9, 9))
        self.assertEqual(answers, [6, 5, 1])
        self.state(keeper, "a", "cb")

    def test_of_two_gauges_the_one_above_goes(self):
        for row, first in (((0, 9), "b"), ((9, 0), "a")):
            keeper, answers = taken("ab", 8, row)
            self.assertEqual(answers, [0])
            self.assertEqual(keeper.dropped(), [first])
            self.assertEqual(taken("ab", 9, row)[0].dropped(), [])

    def test_the_last_gauge_is_never_dropped(self):
        keeper, answers = taken("ba", 0, (4, 4), (4, 5), (-77, 0), (1000, -1000))
        self.assertEqual(answers, [4, 4, -77, 1000])
        self.state(keeper, "b", "a")
        keeper, answers = taken("a", 0, (BIG,), (-BIG,))
        self.assertEqual(answers, [BIG, -BIG])
        self.state(keeper, "a", "")

    def test_other_names_and_missing_dropped_gauges(self):
        keeper = Keeper(rack_of("abc"), 3)
        self.assertEqual(keeper.take({"c": 99, "x": -5, "b": 2, "rank": 7, "a": 1, "": 0}), 2)
        self.state(keeper, "ab", "c")
        self.assertEqual(keeper.take({"b": 4, "a": 3}), 3)
        self.assertEqual(keeper.take({"b": 4, "a": 3, "c": -900}), 3)
        self.state(keeper, "ab", "c")

    def test_missing_readings(self):
        keeper = Keeper(rack_of("cab"), 3)
        for readings, name in (({}, "c"), ({"a": 1, "x": 5}, "c"), ({"c": 0}, "a"), ({"c": 0, "a": 90}, "b"),
                               ({"c": 0, "b": 90}, "a"), ({"b": 1}, "c")):
            self.refuses(MissingReading, {"name": name}, keeper.take, readings)
            self.state(keeper, "cab", "")
        keeper.take({"a": 1, "b": 1, "c": 90})
        self.refuses(MissingReading, {"name": "a"}, keeper.take, {"c": 1, "b": 1})
        self.refuses(MissingReading, {"name": "b"}, keeper.take, {"c": 1, "a": 1})
        self.state(keeper, "ab", "c")
        self.assertEqual([keeper.take({"a": 7, "b": 5}), keeper.limit], [5, 3])

    def test_the_empty_rack(self):
        keeper = Keeper(Rack(), 4)
        for readings in ({}, {"a": 1}):
            self.refuses(NoLevel, {}, keeper.take, readings)
        self.state(keeper, "", "")

    def test_slacks_and_shared_faults_do_not_matter(self):
        rack = Rack(Gauge("a", 50), CoarseGauge("b", 0, step=99), Gauge("c", 0), together=(("a", "c"),))
        keeper = Keeper(rack, 4)
        self.assertEqual(keeper.take({"a": 9, "b": 0, "c": 3}), 3)
        self.state(keeper, "bc", "a")

    def test_drawn_ticks(self):
        source = random.Random(45)
        for _ in range(100):
            letters = source.sample(LETTERS, source.randint(1, 9))
            limit = source.randint(0, 4)
            keeper, kept, dropped = Keeper(rack_of(letters), limit), list(letters), []
            for _ in range(10):
                readings = {letter: source.randint(-4, 4) for letter in LETTERS}
                answer = Rank.median(*[Leaf(letter) for letter in kept]).answer(readings)
                self.assertEqual(keeper.take(readings), answer)
                far = sorted([(-abs(readings[letter] - answer), at) for at, letter in enumerate(kept)])[0]
                if -far[0] > limit:
                    dropped.append(kept.pop(far[1]))
                self.state(keeper, kept, dropped)

    def test_full_size(self):
        far = 10 ** 60 - 1
        row = [-far if at % 2 else far for at in range(9)]
        keeper, answers = taken(LETTERS, 2 * far - 1, *[row] * 9)
        self.assertEqual(answers, [far] * 9)
        self.state(keeper, "acegi", "bdfh")
        self.assertEqual(taken(LETTERS, 2 * far, *[row] * 9)[0].dropped(), [])


class Limits(Checks):
    def test_negative_limits(self):
        for number in (-1, -2, -BIG):
            self.refuses(BadLimit, {"number": number}, Keeper, rack_of("ab"), number)
            self.refuses(BadLimit, {"number": number}, Keeper, Rack(), number)
            keeper = Keeper(rack_of("ab"), 7)
            self.refuses(BadLimit, {"number": number}, keeper.change, number)
            self.refuses(BadLimit, {"number": number}, setattr, keeper, "limit", number)
            self.assertEqual(keeper.limit, 7)
            keeper.take({"a": 0, "b": 7})
            self.assertEqual(keeper.kept(), ["a", "b"])
            keeper.take({"a": 0, "b": 8})
            self.assertEqual(keeper.kept(), ["a"])

    def test_assigning_and_changing(self):
        keeper = Keeper(rack_of("ab"), 0)
        self.assertEqual(keeper.limit, 0)
        keeper.limit = 5
        self.assertEqual(keeper.limit, 5)
        self.assertIsNone(keeper.change(BIG))
        self.assertEqual(keeper.limit, BIG)
        self.assertIsNone(keeper.change(limit=0))
        self.assertEqual(keeper.limit, 0)

    def test_a_new_limit_counts_from_the_next_tick_on(self):
        for assign in (lambda keeper, limit: keeper.change(limit), lambda keeper,
                       limit: setattr(keeper, "limit", limit)):
            keeper = Keeper(rack_of("abc"), 9)
            row = {"a": 0, "b": 9, "c": 0}
            keeper.take(row)
            assign(keeper, 8)
            self.assertEqual([keeper.kept(), keeper.dropped()], [["a", "b", "c"], []])
            keeper.take(row)
            self.assertEqual([keeper.kept(), keeper.dropped()], [["a", "c"], ["b"]])
            assign(keeper, 100)
            keeper.take({"a": 0, "c": 100})
            self.assertEqual(keeper.kept(), ["a", "c"])


class Lists(Checks):
    def test_lists_are_new(self):
        keeper, _ = taken("abc", 3, (0, 9, 0))
        keeper.kept().clear()
        keeper.kept().append("x")
        keeper.dropped().clear()
        keeper.dropped().append("x")
        self.assertEqual([keeper.kept(), keeper.dropped()], [["a", "c"], ["b"]])
        self.assertIsInstance(keeper.kept(), list)
        self.assertIsInstance(keeper.dropped(), list)

    def test_lists_and_racks_are_not_tied_to_the_keeper(self):
        rack = rack_of("abc")
        keeper = Keeper(rack, 0)
        before, gone = keeper.kept(), keeper.dropped()
        keeper.take({"a": 0, "b": 9, "c": 0})
        self.assertEqual([before, gone, rack.names(), len(rack)], [["a", "b", "c"], [], ["a", "b", "c"], 3])
        self.assertEqual(Keeper(rack, 0).kept(), ["a", "b", "c"])

    def test_two_keepers_of_one_rack(self):
        rack = rack_of("abc")
        one, other = Keeper(rack, 0), Keeper(rack, 0)
        one.take({"a": 0, "b": 9, "c": 0})
        self.assertEqual([one.kept(), other.kept(), other.dropped()], [["a", "c"], ["a", "b", "c"], []])


if __name__ == "__main__":
    unittest.main()
