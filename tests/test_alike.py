"""Points 56 and 57."""

import itertools
import random
import unittest

from gaugemiss.alike import Finder, alike, differ
from gaugemiss.errors import MissingReading, NoRule, NotRanked
from gaugemiss.notation import read_rule
from gaugemiss.rules import Leaf, Rank, Trim, Weigh
from tests.checks import BIG, Checks
from tests.drawing import LETTERS, drawn_rule, leaves


def rules_of(*texts):
    return [read_rule(text) for text in texts]


def all_bits(rules):
    """The readings in the order of point 56."""
    names = sorted({name for rule in rules for name in rule.names()})
    return [{name: k >> at & 1 for at, name in enumerate(names)} for k in range(1 << len(names))]


def slow_question(names_of, rules):
    return next((bits for bits in all_bits(names_of) if len({rule.answer(bits) for rule in rules}) > 1), None)


class Differing(Checks):
    def test_the_example(self):
        self.assertEqual(differ(Rank.least(*leaves("ab")), Rank.greatest(*leaves("ab"))), {"a": 1, "b": 0})

    def test_hand_worked(self):
        rows = (("a", "b", {"a": 1, "b": 0}), ("b", "a", {"a": 1, "b": 0}), ("a", "a", None),
                ("rank 0 (a)", "a", None), ("rank 1 (c, b, a)", "rank 1 (a, b, c)", None),
                ("rank 1 (a, b, c)", "rank 2 (a, b, c)", {"a": 1, "b": 0, "c": 0}),
                ("rank 0 (a, b, c)", "rank 1 (a, b, c)", {"a": 1, "b": 1, "c": 0}),
                ("rank 0 (a, b, c)", "rank 0 (a, b)", {"a": 1, "b": 1, "c": 0}),
                ("rank 0 (c, b, a)", "rank 0 (c, b)", {"a": 0, "b": 1, "c": 1}),
                ("weigh 1 1 1 (a, b, c)", "rank 1 (b, c, a)", None), ("weigh 1 1 (a, b)", "rank 0 (a, b)", None),
                ("weigh 1 1 (a, b)", "rank 1 (a, b)", {"a": 1, "b": 0}), ("weigh 0 3 1 (a, b, c)", "b", None),
                ("weigh 1 0 (b, zz)", "b", None), ("rank 1 (zz, b)", "zz", {"b": 1, "zz": 0}),
                ("rank 0 (b, zz)", "b", {"b": 1, "zz": 0}), ("rank 0 (ab, b)", "ab", {"ab": 1, "b": 0}))
        for one, other, bits in rows:
            for some in (rules_of(one, other), rules_of(other, one)):
                self.assertEqual(differ(*some), bits, (one, other))
                self.assertIs(alike(*some), bits is None)

    def test_all_names_are_in_the_dict(self):
        for one, other, names in (("a", "rank 1 (b, c)", "abc"), ("rank 1 (d, b)", "rank 0 (c, a)", "abcd"),
                                  ("c", "a", "ac")):
            bits = differ(*rules_of(one, other))
            self.assertEqual("".join(sorted(bits)), names)
            self.assertTrue(set(bits.values()) <= {0, 1})

    def test_drawn_rules(self):
        source = random.Random(56)
        same = 0
        for _ in range(150):
            names = source.sample(LETTERS, source.randint(1, 5))
            some = [drawn_rule(source, source.sample(names, source.randint(1, len(names))), 3,
                               trims=False) for _ in range(2)]
            bits = slow_question(some, some)
            self.assertEqual(differ(*some), bits, [str(rule) for rule in some])
            self.assertIs(alike(*some), bits is None)
            same += bits is None
        self.assertTrue(10 < same < 140)

    def test_rules_that_agree_on_bits_agree_on_all_readings(self):
        source = random.Random(561)
        for _ in range(60):
            names = "abc"[:source.randint(1, 3)]
            one, other = [drawn_rule(source, source.sample(names, len(names)), 3, trims=False) for _ in range(2)]
            readings = [dict(zip(names, row)) for row in itertools.product(range(-2, 3), repeat=len(names))]
            self.assertIs(alike(one, other), all(one.answer(row) == other.answer(row) for row in readings))

    def test_not_ranked(self):
        ranked = read_rule("rank 0 (a, b)")
        for text in ("trim 0 (a)", "rank 0 (trim 0 (a), b)", "weigh 1 2 (a, rank 0 (b, trim 1 (c, d, e)))"):
            rule = read_rule(text)
            for call in (differ, alike):
                self.refuses(NotRanked, {}, call, rule, ranked)
                self.refuses(NotRanked, {}, call, ranked, rule)
                self.refuses(NotRanked, {}, call, rule, rule)

    def test_full_size(self):
        median = Rank.median(*leaves(LETTERS))
        self.assertIsNone(differ(median, Weigh.of([1] * 9, leaves(LETTERS[::-1]))))
        self.assertIs(alike(median, Weigh.of([BIG] * 9, leaves(LETTERS))), True)
        bits = {letter: 1 if letter in "abcde" else 0 for letter in LETTERS}
        self.assertEqual(differ(median, Rank.of(3, leaves(LETTERS))), bits)
        self.assertEqual(differ(Rank.least(*leaves(LETTERS)), Rank.least(*leaves(LETTERS[1:]))),
                         {letter: int(letter != "a") for letter in LETTERS})

    def test_the_dict_is_new(self):
        one, other = rules_of("a", "b")
        differ(one, other).clear()
        differ(one, other)["a"] = 7
        self.assertEqual(differ(one, other), {"a": 1, "b": 0})


class Finding(Checks):
    TEXTS = ("rank 0 (a, b, c)", "rank 1 (a, b, c)", "rank 2 (a, b, c)", "b", "weigh 1 1 1 (c, b, a)")

    def finder(self):
        return Finder(*rules_of(*self.TEXTS))

    def test_at_first_all_rules_are_left(self):
        self.assertEqual(self.finder().left(), [0, 1, 2, 3, 4])
        self.assertEqual(Finder.of(rules_of("a")).left(), [0])

    def test_to_the_end(self):
        finder = self.finder()
        self.assertEqual(finder.question(), {"a": 1, "b": 0, "c": 0})
        self.assertIsNone(finder.tell({"a": 1, "b": 0, "c": 0}, 0))
        self.assertEqual([finder.left(), finder.question()], [[0, 1, 3, 4], {"a": 0, "b": 1, "c": 0}])
        finder.tell({"a": 0, "b": 1, "c": 0}, 0)
        self.assertEqual([finder.left(), finder.question()], [[0, 1, 4], {"a": 1, "b": 1, "c": 0}])
        finder.tell({"c": 0, "b": 1, "a": 1}, 1)
        self.assertEqual([finder.left(), finder.question()], [[1, 4], None])

    def test_the_question_has_the_names_of_all_rules(self):
        finder = Finder(*rules_of("a", "rank 1 (z, b)", "rank 0 (b, c)"))
        finder.tell({"a": 9, "b": 1, "z": 2, "c": 1}, 1)
        self.assertEqual([finder.left(), finder.question()], [[2], None])
        finder = Finder(*rules_of("aa", "c", "rank 0 (c, b)"))
        finder.tell({"aa": 9, "b": 1, "c": 1}, 1)
        self.assertEqual([finder.left(), finder.question()], [[1, 2], {"aa": 0, "b": 0, "c": 1}])

    def test_other_readings_than_bits(self):
        finder = self.finder()
        finder.tell({"a": -5, "b": 70, "c": BIG, "x": 3}, 70)
        self.assertEqual(finder.left(), [1, 3, 4])
        finder.tell({"a": BIG, "b": -BIG, "c": 7, "": 3}, -BIG)
        self.assertEqual([finder.left(), finder.question()], [[3], None])

    def test_missing_readings_without_any_change(self):
        finder = self.finder()
        for readings, name in (({}, "a"), ({"a": 1, "c": 1}, "b"), ({"b": 1, "c": 1, "x": 2}, "a"),
                               ({"b": 1, "a": 1}, "c")):
            for answer in (1, 77):
                self.refuses(MissingReading, {"name": name}, finder.tell, readings, answer)
                self.assertEqual(finder.left(), [0, 1, 2, 3, 4])

    def test_only_the_rules_that_are_left_need_readings(self):
        finder = Finder(*rules_of("a", "rank 0 (b, c)", "rank 1 (d, c)"))
        finder.tell({"a": 0, "b": 1, "c": 1, "d": 1}, 1)
        self.assertEqual(finder.left(), [1, 2])
        self.refuses(MissingReading, {"name": "b"}, finder.tell, {"d": 1}, 1)
        self.refuses(MissingReading, {"name": "d"}, finder.tell, {"c": 1, "b": 5, "a": 1}, 5)
        self.refuses(MissingReading, {"name": "d"}, finder.tell, {"c": 1, "b": 5, "a": 1}, 1)
        finder.tell({"b": 1, "c": 2, "d": 3}, 3)
        self.assertEqual(finder.left(), [2])
        finder.tell({"c": 2, "d": 3}, 3)
        self.refuses(MissingReading, {"name": "d"}, finder.tell, {"c": 2, "a": 1}, 3)

    def test_no_rule_without_any_change(self):
        finder = self.finder()
        for answer in (4, -1, BIG):
            self.refuses(NoRule, {"reply": answer}, finder.tell, {"a": 1, "b": 2, "c": 3}, answer)
            self.assertEqual(finder.left(), [0, 1, 2, 3, 4])
        finder.tell({"a": 1, "b": 2, "c": 3}, 3)
        self.refuses(NoRule, {"reply": 2}, finder.tell, {"a": 1, "b": 2, "c": 3}, 2)
        self.assertEqual([finder.left(), finder.question()], [[2], None])

    def test_without_rules(self):
        for finder in (Finder(), Finder.of([])):
            self.assertEqual([finder.left(), finder.question()], [[], None])
            self.refuses(NoRule, {"reply": 5}, finder.tell, {"a": 1}, 5)
            self.refuses(NoRule, {"reply": 0}, finder.tell, {}, 0)
            self.assertEqual(finder.left(), [])

    def test_not_ranked(self):
        for texts in (("trim 0 (a)",), ("a", "trim 0 (a, b)"), ("rank 0 (trim 0 (a), b)", "a"),
                      ("a", "b", "rank 0 (trim 0 (c))")):
            some = rules_of(*texts)
            self.refuses(NotRanked, {}, Finder, *some)
            self.refuses(NotRanked, {}, Finder.of, some)
            self.refuses(NotRanked, {}, Finder.of, some[::-1])

    def test_equal_rules(self):
        finder = Finder(*rules_of("a", "a", "rank 0 (a)"))
        self.assertIsNone(finder.question())
        finder.tell({"a": 4}, 4)
        self.assertEqual(finder.left(), [0, 1, 2])

    def test_drawn_finders(self):
        source = random.Random(57)
        for _ in range(60):
            names = source.sample(LETTERS, source.randint(1, 5))
            some = [drawn_rule(source, source.sample(names, source.randint(1, len(names))), 3, trims=False)
                    for _ in range(source.randint(1, 6))]
            finder, secret, left = Finder.of(some), source.choice(some), list(range(len(some)))
            while True:
                self.assertEqual(finder.left(), left)
                question = slow_question(some, [some[at] for at in left])
                self.assertEqual(finder.question(), question)
                if question is None:
                    break
                finder.tell(question, secret.answer(question))
                left = [at for at in left if some[at].answer(question) == secret.answer(question)]
            self.assertTrue(all(alike(some[at], secret) for at in left))

    def test_full_size(self):
        some = [Rank.of(place, leaves(LETTERS)) for place in range(8)] + [Weigh.of([1] * 9, leaves(LETTERS))]
        finder = Finder.of(some)
        asked = 0
        while (question := finder.question()) is not None:
            finder.tell(question, some[4].answer(question))
            asked += 1
        self.assertEqual([finder.left(), asked], [[4, 8], 4])

    def test_lists_and_dicts_are_copied_and_new(self):
        some = rules_of("a", "b")
        finder = Finder.of(some)
        some.reverse()
        some.clear()
        finder.left().clear()
        finder.left().append(9)
        finder.question().clear()
        finder.question()["x"] = 5
        self.assertEqual([finder.left(), finder.question()], [[0, 1], {"a": 1, "b": 0}])
        readings = {"b": 3, "a": 4, "x": 5}
        finder.tell(readings, 4)
        self.assertEqual([readings, finder.left()], [{"b": 3, "a": 4, "x": 5}, [0]])
        self.assertIsInstance(finder.left(), list)
        self.assertIsInstance(Finder.of([Leaf("a")]), Finder)
        self.refuses(NotRanked, {}, Finder.of, [Trim(0, Leaf("a"))])


if __name__ == "__main__":
    unittest.main()
