"""Points 24 to 28."""

import itertools
import random
import unittest

from gaugemiss.errors import BadRule, DuplicateGauge, MissingReading
from gaugemiss.rules import Leaf, Rank, Rule, Trim, Weigh
from tests.checks import BIG, Checks
from tests.drawing import LETTERS, drawn_rule, leaves


def told(*numbers):
    """Readings of the gauges a, b, c and so on."""
    return dict(zip(LETTERS, numbers))


class Answers(Checks):
    def test_a_leaf_answers_with_its_reading(self):
        self.assertEqual(Leaf("b").answer(told(4, -7, 9)), -7)
        self.assertEqual(Leaf("long name!").answer({"long name!": BIG}), BIG)

    def test_ranks(self):
        for place, answer in enumerate([-50, -4, 1, 9]):
            self.assertEqual(Rank(place, *leaves("abcd")).answer(told(9, -4, 1, -50)), answer)
            self.assertEqual(Rank.of(place, leaves("dcba")).answer(told(9, -4, 1, -50)), answer)
        self.assertEqual(Rank(0, Leaf("a")).answer(told(-3)), -3)

    def test_ranks_count_equal_answers_each(self):
        for readings, answers in ((told(5, 5, 2), [2, 5, 5]), (told(2, 5, 2), [2, 2, 5]), (told(7, 7, 7), [7, 7, 7])):
            self.assertEqual([Rank.of(place, leaves("abc")).answer(readings) for place in range(3)], answers)

    def test_least_greatest_and_median(self):
        readings = told(8, -2, 5, 1, 30)
        rows = (("a", 8, 8, 8), ("ab", -2, -2, 8), ("abc", -2, 5, 8), ("abcd", -2, 1, 8), ("abcde", -2, 5, 30))
        for letters, least, median, greatest in rows:
            some = leaves(letters)
            rules = [Rank.least(*some), Rank.median(*some), Rank.greatest(*some)]
            self.assertEqual([rule.answer(readings) for rule in rules], [least, median, greatest])

    def test_trims(self):
        self.assertEqual(Trim(0, *leaves("abcd")).answer(told(9, -4, 1, -50)), -11)
        self.assertEqual(Trim(1, *leaves("abcd")).answer(told(9, -4, 1, -50)), -2)
        self.assertEqual(Trim(1, *leaves("abc")).answer(told(9, -4, 1)), 1)
        self.assertEqual(Trim.of(2, leaves("abcde")).answer(told(0, 10, 20, 30, 40)), 20)
        self.assertEqual(Trim(0, Leaf("a")).answer(told(-3)), -3)
        self.assertEqual(Trim(1, *leaves("abcd")).answer(told(5, 5, 5, 1)), 5)

    def test_the_mean_of_a_trim_is_rounded_down(self):
        rows = ((told(1, 2), 1), (told(-1, -2), -2), (told(-1, 0), -1), (told(0, 1), 0), (told(-3, 0), -2),
                (told(BIG, BIG + 1), BIG), (told(-BIG, -BIG - 1), -BIG - 1))
        for readings, answer in rows:
            self.assertEqual(Trim(0, *leaves("ab")).answer(readings), answer)
        self.assertEqual(Trim(0, *leaves("abc")).answer(told(-1, 0, 0)), -1)
        self.assertEqual(Trim(1, *leaves("abcde")).answer(told(-9, -1, -1, 0, 9)), -1)

    def test_inner_means_are_rounded_before_outer_ones(self):
        rule = Trim(0, Trim(0, *leaves("ab")), Trim(0, *leaves("cd")))
        self.assertEqual(rule.answer(told(0, 1, 0, 1)), 0)
        self.assertEqual(rule.answer(told(0, -1, 0, -1)), -1)
        self.assertEqual(rule.answer(told(0, 1, 1, 1)), 0)

    def test_weighs(self):
        rows = (((1, 1, 1), told(5, 1, 9), 5), ((1, 1), told(5, 1), 1), ((2, 1, 1), told(5, 1, 9), 5),
                ((1, 1, 3), told(5, 1, 9), 9), ((1, 2, 1), told(5, 1, 9), 1), ((1, 3, 1), told(5, 1, 9), 1),
                ((2, 1, 3), told(5, 1, 9), 5), ((2, 1, 4), told(5, 1, 9), 9), ((4, 1, 3), told(1, 1, 9), 1),
                ((1, 1, 1, 1), told(4, 3, 2, 1), 2), ((1, 2, 3, 4), told(4, 3, 2, 1), 2))
        for weights, readings, answer in rows:
            self.assertEqual(Weigh(list(weights), *leaves(LETTERS[:len(weights)])).answer(readings), answer)
            self.assertEqual(Weigh.of(list(weights), leaves(LETTERS[:len(weights)])).answer(readings), answer)

    def test_weighs_take_equal_answers_together(self):
        self.assertEqual(Weigh([1, 1, 1, 1, 3], *leaves("abcde")).answer(told(2, 2, 2, 2, 9)), 2)
        self.assertEqual(Weigh([3, 2, 2], *leaves("abc")).answer(told(9, 4, 4)), 4)
        self.assertEqual(Weigh([5, 2, 2], *leaves("abc")).answer(told(9, 4, 4)), 9)

    def test_weights_of_zero_and_all_weight_at_one_part(self):
        self.assertEqual(Weigh([0, 1, 0], *leaves("abc")).answer(told(-8, 7, 9)), 7)
        self.assertEqual(Weigh([0, 0, BIG], *leaves("abc")).answer(told(-8, 7, 9)), 9)
        self.assertEqual(Weigh([0, 1, 1], *leaves("abc")).answer(told(-8, 7, 9)), 7)
        self.assertEqual(Weigh([1, 0, 1], *leaves("abc")).answer(told(1, 5, 9)), 1)
        self.assertEqual(Weigh([3], Leaf("a")).answer(told(-4)), -4)

    def test_weighs_of_all_small_weights_and_readings_agree_with_the_words(self):
        for weights in itertools.product(range(3), repeat=3):
            if not any(weights):
                continue
            for numbers in itertools.product(range(-1, 2), repeat=3):
                reached = [v for v in numbers
                           if 2 * sum(w for w, n in zip(weights, numbers) if n <= v) >= sum(weights)]
                self.assertEqual(Weigh.of(list(weights), leaves("abc")).answer(told(*numbers)), min(reached))

    def test_nested_rules(self):
        rule = Rank(1, Leaf("a"), Trim(1, *leaves("bcd")), Weigh([2, 1], *leaves("ef")))
        self.assertEqual(rule.answer(told(10, 1, 2, 30, 4, 5)), 4)
        self.assertEqual(rule.answer(told(3, 1, 2, 30, 4, 5)), 3)
        self.assertEqual(rule.answer(told(3, 30, 2, 3, 50, -5)), 3)


class Creating(Checks):
    def test_places_out_of_range(self):
        for many in range(1, 10):
            some = leaves(LETTERS[:many])
            for place in (-1, many, -BIG, BIG):
                self.refuses(BadRule, {"kind": "rank"}, Rank, place, *some)
                self.refuses(BadRule, {"kind": "rank"}, Rank.of, place, some)
            for place in range(many):
                self.assertEqual(Rank(place, *some).names(), list(LETTERS[:many]))
        for place in (-1, 0, 1):
            self.refuses(BadRule, {"kind": "rank"}, Rank, place)
            self.refuses(BadRule, {"kind": "rank"}, Rank.of, place, [])

    def test_cuts_out_of_range(self):
        for many in range(1, 10):
            some = leaves(LETTERS[:many])
            most = (many - 1) // 2
            for cut in (-1, most + 1, -BIG, BIG):
                self.refuses(BadRule, {"kind": "trim"}, Trim, cut, *some)
                self.refuses(BadRule, {"kind": "trim"}, Trim.of, cut, some)
            for cut in range(most + 1):
                self.assertEqual(Trim.of(cut, some).names(), list(LETTERS[:many]))
        for cut in (-1, 0, 1):
            self.refuses(BadRule, {"kind": "trim"}, Trim, cut)
            self.refuses(BadRule, {"kind": "trim"}, Trim.of, cut, [])

    def test_weights_out_of_range(self):
        rows = (([], ""), ([1], ""), ([], "a"), ([1, 1], "a"), ([1], "ab"), ([1, 1, 1], "ab"), ([-1, 2], "ab"),
                ([2, -1], "ab"), ([-1, 1], "ab"), ([-1], "a"), ([0], "a"), ([0, 0], "ab"), ([BIG, -1], "ab"))
        for weights, letters in rows:
            self.refuses(BadRule, {"kind": "weigh"}, Weigh, weights, *leaves(letters))
            self.refuses(BadRule, {"kind": "weigh"}, Weigh.of, weights, leaves(letters))
        for weights, letters in (([1], "a"), ([0, 1], "ab"), ([1, 0], "ab"), ([BIG, 1], "ab")):
            self.assertEqual(Weigh(weights, *leaves(letters)).names(), list(letters))

    def test_the_first_repeated_name(self):
        rows = ((leaves("aa"), "a"), (leaves("abcb"), "b"), (leaves("abba"), "b"), (leaves("abab"), "a"),
                ([Leaf("a"), Rank(0, *leaves("bc")), Leaf("c"), Leaf("b")], "c"),
                ([Rank(0, *leaves("ba")), Trim(0, *leaves("cab"))], "a"),
                ([Leaf("x"), Trim(0, Rank(0, Leaf("y")), Leaf("z")), Weigh([1], Leaf("y")), Leaf("x")], "y"))
        for parts, name in rows:
            ones = [1] * len(parts)
            for make in (Rank, Trim):
                self.refuses(DuplicateGauge, {"name": name}, make, 0, *parts)
                self.refuses(DuplicateGauge, {"name": name}, make.of, 0, parts)
            self.refuses(DuplicateGauge, {"name": name}, Weigh, ones, *parts)
            self.refuses(DuplicateGauge, {"name": name}, Weigh.of, ones, parts)
            for make in (Rank.least, Rank.greatest, Rank.median):
                self.refuses(DuplicateGauge, {"name": name}, make, *parts)

    def test_wrong_numbers_come_before_repeated_names(self):
        self.refuses(BadRule, {"kind": "rank"}, Rank, 2, *leaves("aa"))
        self.refuses(BadRule, {"kind": "rank"}, Rank.of, -1, leaves("aa"))
        self.refuses(BadRule, {"kind": "trim"}, Trim, 1, *leaves("aa"))
        self.refuses(BadRule, {"kind": "trim"}, Trim.of, -1, leaves("aa"))
        for weights in ([0, 0], [1], [2, -1]):
            self.refuses(BadRule, {"kind": "weigh"}, Weigh, weights, *leaves("aa"))
            self.refuses(BadRule, {"kind": "weigh"}, Weigh.of, weights, leaves("aa"))

    def test_a_leaf_checks_nothing(self):
        for name in ("", "rank", "A b", "abcdefghijklmnop"):
            self.assertEqual([Leaf(name).names(), str(Leaf(name))], [[name], name])

    def test_least_greatest_and_median_are_ranks(self):
        for many in range(1, 10):
            some = leaves(LETTERS[:many])
            rows = ((Rank.least, 0), (Rank.median, (many - 1) // 2), (Rank.greatest, many - 1))
            for make, place in rows:
                self.assertIs(type(make(*some)), Rank)
                self.assertEqual(make(*some), Rank(place, *some))
        for make in (Rank.least, Rank.median, Rank.greatest):
            self.refuses(BadRule, {"kind": "rank"}, make)

    def test_of_creates_the_same_rules(self):
        some = leaves("abc")
        for made, same in ((Rank.of(2, some), Rank(2, *some)), (Trim.of(1, some), Trim(1, *some)),
                           (Weigh.of([3, 0, 1], some), Weigh([3, 0, 1], *some))):
            self.assertIs(type(made), type(same))
            self.assertEqual(made, same)

    def test_every_kind_is_a_rule(self):
        for rule in (Leaf("a"), Rank(0, Leaf("a")), Trim(0, Leaf("a")), Weigh([1], Leaf("a"))):
            self.assertIsInstance(rule, Rule)

    def test_lists_that_are_handed_in_may_change_afterwards(self):
        weights, parts = [0, 3], leaves("ab")
        rules = [Weigh(weights, *parts), Weigh.of(weights, parts), Rank.of(1, parts), Trim.of(0, parts)]
        before = [(str(rule), rule.names(), rule.answer(told(1, 5))) for rule in rules]
        weights[:] = [9, 0]
        parts[0] = Leaf("c")
        parts.pop()
        self.assertEqual([(str(rule), rule.names(), rule.answer(told(1, 5))) for rule in rules], before)
        self.assertEqual(before[0], ("weigh 0 3 (a, b)", ["a", "b"], 5))


class Names(Checks):
    def test_names_stand_from_left_to_right(self):
        rule = Rank(1, Leaf("d"), Trim(1, *leaves("bca")), Weigh([2, 1], Rank(0, *leaves("fe")), Leaf("g")))
        self.assertEqual(rule.names(), list("dbcafeg"))
        self.assertEqual(Leaf("x").names(), ["x"])

    def test_ranked(self):
        trim, rank, weigh = Trim(0, *leaves("ab")), Rank(0, *leaves("cd")), Weigh([1, 1], *leaves("ef"))
        rows = ((Leaf("a"), True), (rank, True), (weigh, True), (trim, False), (Rank(0, rank, weigh), True),
                (Rank(0, weigh, trim), False), (Weigh([1, 1], trim, rank), False), (Trim(0, rank, weigh), False),
                (Rank(0, Rank(0, Weigh([1], trim)), Leaf("x")), False), (Weigh([1], Rank(0, Leaf("a"))), True))
        for rule, ranked in rows:
            self.assertIs(rule.ranked, ranked)
            self.assertIn("ranked", vars(rule))

    def test_the_first_missing_reading(self):
        rule = Rank(1, Leaf("d"), Trim(1, *leaves("bca")), Weigh([2, 0], *leaves("fe")))
        for missing, name in (("d", "d"), ("e", "e"), ("ae", "a"), ("bd", "d"), ("abc", "b"), ("ef", "f"), ("ac", "c"),
                              ("abcdef", "d")):
            readings = {letter: 1 for letter in "abcdefxyz" if letter not in missing}
            self.refuses(MissingReading, {"name": name}, rule.answer, readings)
        self.refuses(MissingReading, {"name": "a"}, Leaf("a").answer, {})

    def test_other_names_are_ignored(self):
        rule = Rank.greatest(*leaves("ab"))
        self.assertEqual(rule.answer({"z": 99, "b": 2, "a": 1, "": 50}), 2)
        self.assertEqual(Leaf("a").answer({"z": 99, "a": 1}), 1)
        self.assertEqual(rule.answer({"a": 0, "b": 0}), 0)

    def test_the_order_of_the_readings_has_no_meaning(self):
        rule = Weigh([1, 2, 3], *leaves("abc"))
        for order in itertools.permutations([("a", 5), ("b", 1), ("c", 9)]):
            self.assertEqual(rule.answer(dict(order)), 5)


class Equality(Checks):
    def test_rules_are_equal_if_their_written_forms_are(self):
        rules = [Leaf("a"), Leaf("b"), Rank(0, Leaf("a")), Rank(0, *leaves("ab")), Rank(0, *leaves("ba")),
                 Rank(1, *leaves("ab")), Trim(0, *leaves("ab")), Weigh([1, 1], *leaves("ab")),
                 Weigh([2, 2], *leaves("ab")), Rank(0, Rank(0, *leaves("ab"))), Trim(0, Leaf("a"))]
        for i, one in enumerate(rules):
            for j, other in enumerate(rules):
                self.assertEqual(one == other, i == j)
                self.assertEqual(one != other, i != j)
        for one, other in ((Leaf("a"), Leaf("a")), (Rank(0, *leaves("ab")), Rank.least(*leaves("ab"))),
                           (Weigh([1, 2], *leaves("ab")), Weigh.of([1, 2], leaves("ab"))),
                           (Leaf("rank 0 (a)"), Rank(0, Leaf("a")))):
            self.assertTrue(one == other)
            self.assertFalse(one != other)

    def test_a_rule_equals_no_other_kind_of_value(self):
        for rule in (Leaf("a"), Rank(0, Leaf("a"))):
            for other in (str(rule), [rule], None, 0, True, (rule,), {"a": rule}):
                self.assertIs(rule == other, False)
                self.assertIs(other == rule, False)


class SlowMovement(Checks):
    def test_drawn_rules_move_slowly(self):
        source = random.Random(28)
        for _ in range(300):
            letters = LETTERS[:source.randint(1, 9)]
            rule = drawn_rule(source, letters)
            first = {letter: source.randint(-20, 20) for letter in letters}
            raised = {letter: first[letter] + source.randint(0, 5) for letter in letters}
            moved = {letter: first[letter] + source.randint(-4, 4) for letter in letters}
            by = source.randint(-BIG, BIG)
            along = {letter: first[letter] + by for letter in letters}
            answer = rule.answer(first)
            self.assertLessEqual(answer, rule.answer(raised))
            self.assertEqual(rule.answer(along), answer + by)
            self.assertLessEqual(abs(rule.answer(moved) - answer), 4)
            self.assertTrue(min(first.values()) <= answer <= max(first.values()))


if __name__ == "__main__":
    unittest.main()
