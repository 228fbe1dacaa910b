"""Points 29 to 33."""

import random
import unittest

from gaugemiss.errors import BadLine, BadText
from gaugemiss.gauges import CoarseGauge, Gauge, LateCoarseGauge, LateGauge, Rack
from gaugemiss.notation import read_gauge, read_rack, read_rule, write_gauge, write_rack
from gaugemiss.rules import Leaf, Rank, Trim, Weigh
from tests.checks import BIG, Checks
from tests.drawing import LETTERS, drawn_gauge, drawn_rack, drawn_rule, leaves, nested

LONG = "123456789012345678"
EXAMPLE = "rank 1 (a, trim 1 (b, c, d), weigh 2 1 (e, f))"


class WrittenRules(Checks):
    def test_each_kind(self):
        rows = ((Leaf("abc"), "abc"), (Rank(0, Leaf("a")), "rank 0 (a)"), (Rank(2, *leaves("cab")), "rank 2 (c, a, b)"),
                (Trim(1, *leaves("abc")), "trim 1 (a, b, c)"), (Weigh([5], Leaf("a")), "weigh 5 (a)"),
                (Weigh([10, 0, 3], *leaves("abc")), "weigh 10 0 3 (a, b, c)"),
                (Rank(1, Leaf("a"), Trim(1, *leaves("bcd")), Weigh([2, 1], *leaves("ef"))), EXAMPLE),
                (Rank(0, Rank(0, Rank(0, Leaf("a")))), "rank 0 (rank 0 (rank 0 (a)))"))
        for rule, text in rows:
            self.assertEqual(str(rule), text)
            self.assertEqual(read_rule(text), rule)
            self.assertIs(type(read_rule(text)), type(rule))

    def test_drawn_rules_are_read_as_they_were_written(self):
        source = random.Random(29)
        for _ in range(200):
            letters = LETTERS[:source.randint(1, 9)]
            rule = drawn_rule(source, letters)
            read = read_rule(str(rule))
            readings = {letter: source.randint(-9, 9) for letter in letters}
            self.assertEqual(read, rule)
            self.assertEqual([read.names(), read.ranked], [rule.names(), rule.ranked])
            self.assertEqual(read.answer(readings), rule.answer(readings))

    def test_a_long_number_is_written_in_full_and_not_read(self):
        text = f"weigh {BIG} 1 (a, b)"
        self.assertEqual(str(Weigh([BIG, 1], *leaves("ab"))), text)
        self.refuses(BadText, {"text": text}, read_rule, text)

    def test_numbers_of_18_digits_are_read(self):
        text = f"weigh {LONG} 0 (a, b)"
        self.assertEqual(read_rule(text), Weigh([int(LONG), 0], *leaves("ab")))
        for longer in (LONG + "0", "1" + "0" * 18, "9" * 19, "0" * 18, "0" * 19, "0" + LONG[:17]):
            wrong = f"weigh {longer} 0 (a, b)"
            self.refuses(BadText, {"text": wrong}, read_rule, wrong)

    def test_rules_that_nest_8_deep_are_read(self):
        for head in ("rank 0", "trim 0", "weigh 1"):
            self.assertEqual(str(read_rule(nested(8, head=head))), nested(8, head=head))
            for depth in (9, 10, 100, 3000):
                text = nested(depth, head=head)
                self.refuses(BadText, {"text": text}, read_rule, text)

    def test_the_deepest_part_counts(self):
        for where in ("{}, b, c", "b, {}, c", "b, c, {}"):
            for depth in range(8):
                text = f"rank 1 ({where.format(nested(depth))})"
                self.assertEqual(str(read_rule(text)), text)
        for where in ("{}, b, c", "b, {}, c", "b, c, {}"):
            text = f"rank 1 ({where.format(nested(8))})"
            self.refuses(BadText, {"text": text}, read_rule, text)

    def test_rules_are_read_with_names_that_begin_like_words(self):
        for text in ("ranks", "trimm", "weighs", "togethera", "rankrankrank", "ran",
                     "rank 0 (ranka, trima, weigha, togethera)", "weigh 1 1 (weig, weighh)"):
            self.assertEqual(str(read_rule(text)), text)


class WrongRules(Checks):
    def test_spoiled_texts(self):
        for text in ("", " ", "a ", " a", "a b", "A", "a1", "1", "rank", "trim", "weigh", "together", "abcdefghijklm",
                     "()", "(a)", "a()", "a (b)", "ab, c", "a,b", "-", "a\n", "\n",
                     "rank (a)", "rank 0", "rank 0 ", "rank 0 ()", "rank 0()", "rank 0 (", "rank 0 a", "rank 0 a)",
                     "rank 0 (a", "rank 0(a)", "rank0 (a)", "rank 0  (a)", "rank  0 (a)", " rank 0 (a)", "rank 0 (a) ",
                     "rank 0 ( a)", "rank 0 (a )", "rank 0 (a))", "rank 0 ((a))", "rank 0 ((a)", "(rank 0 (a))",
                     "rank 0 (a,b)", "rank 0 (a , b)", "rank 0 (a,  b)", "rank 0 (a b)", "rank 0 (a,, b)",
                     "rank 0 (a, , b)", "rank 0 (a, b,)", "rank 0 (a, b, )", "rank 0 (, a)", "rank 0 (,a)",
                     "rank 0 (a), b", "rank 0 (a, b) (c)", "rank 0 (a)(b)", "rank 0, (a)", "rank 0 (a).",
                     "rank 00 (a)", "rank 01 (a, b)", "rank +0 (a)", "rank -0 (a)", "rank -1 (a)", "rank 1 (a)",
                     "rank 2 (a, b)", "rank 0 0 (a)", "rank x (a)", "rank 0x (a)", "rank 1_0 (a)", "rank 0.0 (a)",
                     "Rank 0 (a)", "rang 0 (a)", "least (a)", "0 (a)", "a 0 (b)", "together 0 (a)", "rank\n0 (a)",
                     "trim (a)", "trim 1 (a)", "trim 1 (a, b)", "trim -1 (a)", "trim 2 (a, b, c, d)", "trim 0 0 (a)",
                     "trim 00 (a)", "weigh (a)", "weigh 1 1 (a)", "weigh 1 (a, b)", "weigh 1 1 1 (a, b)", "weigh 0 (a)",
                     "weigh 0 0 (a, b)", "weigh 1 -1 (a, b)", "weigh 1, 1 (a, b)", "weigh 1  1 (a, b)",
                     "weigh 01 1 (a, b)", "weigh 1 1 (a, rank)", "weigh 1 1 (a, A)", "weigh 1 1 (a, abcdefghijklm)",
                     "rank 0 (a, a)", "rank 0 (a, rank 0 (b, a))", "weigh 1 1 (rank 0 (a), trim 0 (a))",
                     "rank 0 (a, rank 0 (b)", "rank 0 (a, rank 0 (b)))", "rank 0 (a, rank 0 b)", "rank 0 (rank 0 (a)b)",
                     "rank 0 (rank 0 (a) b)", "rank 0 (rank 0 (a), b", "rank 0 (a)), rank 0 ((b)",
                     "rank 0 (a), rank 0 (b)", "rank 0 (b), c (d)", ")", "(", ", ", "rank 0 )a("):
            self.refuses(BadText, {"text": text}, read_rule, text)

    def test_every_small_change_of_the_example(self):
        signs = " (),0129-+.abrAZ~\n"
        changed = set()
        for at in range(len(EXAMPLE) + 1):
            changed.update(EXAMPLE[:at] + sign + EXAMPLE[at:] for sign in signs)
            changed.update(EXAMPLE[:at] + sign + EXAMPLE[at + 1:] for sign in signs)
            changed.update(EXAMPLE[:at] + EXAMPLE[at + cut:] for cut in (1, 2, 3))
        read = []
        for text in sorted(changed):
            try:
                rule = read_rule(text)
            except BadText as error:
                self.assertEqual(error.text, text)
            else:
                self.assertEqual(str(rule), text)
                read.append(text)
        self.assertIn(EXAMPLE, read)
        self.assertIn("rank 0 (a, trim 1 (b, c, d), weigh 2 1 (e, f))", read)
        self.assertIn("rank 1 (ab, trim 1 (b, c, d), weigh 2 1 (e, f))", read)
        self.assertIn("rank 1 (a, trim 1 (b, c, d), weigh 2 10 (e, f))", read)
        self.assertNotIn("rank 3 (a, trim 1 (b, c, d), weigh 2 1 (e, f))", read)
        self.assertIn("rank 1 (trim 1 (b, c, d), weigh 2 1 (e, f))", read)
        self.assertFalse([text for text in read if "  " in text or text.strip() != text])

    def test_the_error_has_the_whole_text(self):
        text = "rank 0 (a, rank 5 (b, c))"
        self.refuses(BadText, {"text": text}, read_rule, text)


class GaugeLines(Checks):
    ROWS = ((Gauge("a", 0), "a 0"), (Gauge("abcdefghijkl", 12), "abcdefghijkl 12"),
            (CoarseGauge("b", 1, step=5), "b 1 step 5"), (CoarseGauge("b", 1, step=1), "b 1 step 1"),
            (LateGauge("c", 2, late=3, pace=0), "c 2 late 3 pace 0"),
            (LateCoarseGauge("d", 10, step=20, late=30, pace=40), "d 10 step 20 late 30 pace 40"),
            (Gauge("step", 7), "step 7"), (LateGauge("late", 0, late=0, pace=7), "late 0 late 0 pace 7"),
            (Gauge("togethera", 4), "togethera 4"), (Gauge("ranks", 4), "ranks 4"), (Gauge("weighed", 4), "weighed 4"),
            (Gauge("e", int(LONG)), f"e {LONG}"), (CoarseGauge("e", 0, step=int(LONG)), f"e 0 step {LONG}"))

    def test_the_four_kinds(self):
        for gauge, line in self.ROWS:
            self.assertEqual(write_gauge(gauge), line)
            read = read_gauge(line)
            self.assertIs(type(read), type(gauge))
            self.assertEqual(vars(read), vars(gauge))

    def test_drawn_gauges(self):
        source = random.Random(31)
        for _ in range(100):
            gauge = drawn_gauge(source, "abc", most=10 ** 17)
            read = read_gauge(write_gauge(gauge))
            self.assertIs(type(read), type(gauge))
            self.assertEqual(vars(read), vars(gauge))

    def test_long_numbers_are_written_in_full_and_not_read(self):
        for gauge in (Gauge("a", BIG), CoarseGauge("a", 0, step=BIG), LateGauge("a", 0, late=BIG, pace=0),
                      LateCoarseGauge("a", 0, step=1, late=0, pace=BIG)):
            self.assertIn(f" {BIG}", write_gauge(gauge))
            self.refuses(BadText, {"text": write_gauge(gauge)}, read_gauge, write_gauge(gauge))
        self.refuses(BadText, {"text": f"a {LONG}0"}, read_gauge, f"a {LONG}0")

    def test_wrong_lines(self):
        for line in ("", " ", "a", "a ", " a 1", "a 1 ", "a  1", "1", "1 a", "a a", "a -1", "a +1", "a 01", "a 00",
                     "a 1.0", "a x", "A 1", "rank 1", "trim 1", "weigh 1", "together 1", "together a b", "a1 1",
                     "abcdefghijklm 1", "a 1 2", "a 1\n", "a\n1", "a,1",
                     "a 1 step", "a 1 step ", "a 1 step 0", "a 1 step 00", "a 1 step 01", "a 1 step -1", "a 1 step x",
                     "a 1 step 1 ", "a 1  step 1", "a 1 step  1", "a 1 Step 1", "a step 1", "a 1 step 1 step 1",
                     "a 1 step 1 2", "a 1 steps 1", "a 1 late 1", "a 1 pace 1", "a 1 late 1 pace", "a 1 late 1 pace ",
                     "a 1 late pace 1", "a 1 pace 1 late 1", "a 1 late -1 pace 1", "a 1 late 1 pace -1",
                     "a 1 late 01 pace 1", "a 1 late 1 pace 1 2", "a 1 late 1 late 1", "a 1 late 1  pace 1",
                     "a 1 late 1 pace 1 step 1", "a 1 step 1 late 1", "a 1 step 1 pace 1", "a 1 step 1 pace 1 late 1",
                     "a 1 step 0 late 1 pace 1", "a 1 step 1 late 1 pace 1 ", "a 1 step 1 late 1 pace 1 x 1",
                     "a 1 step 1 late 1 pace 1 late 1 pace 1", "a 1 step 1 step 1 late 1 pace 1", "a 1 width 1"):
            self.refuses(BadText, {"text": line}, read_gauge, line)


class RackTexts(Checks):
    def test_the_empty_rack(self):
        self.assertEqual(write_rack(Rack()), "")
        self.assertIsInstance(read_rack(""), Rack)
        self.assertEqual(read_rack("").names(), [])

    def test_written_racks(self):
        gauges = [Gauge("b", 3), CoarseGauge("a", 1, step=5), LateGauge("d", 0, late=1, pace=2), Gauge("c", 4)]
        lines = "b 3\na 1 step 5\nd 0 late 1 pace 2\nc 4"
        rows = (((), ""), (((), ("a",)), ""), ((("a", "b"),), "\ntogether b a"), ((("c", "d", "a"),), "\ntogether a d c"),
                ((("c", "d"), ("a", "b")), "\ntogether b a\ntogether d c"),
                ((("d", "a"), (), ("c", "b")), "\ntogether b c\ntogether a d"))
        for groups, end in rows:
            rack = Rack(*gauges, together=groups)
            self.assertEqual(write_rack(rack), lines + end)
            read = read_rack(write_rack(rack))
            self.assertEqual([read.names(), read.faults()], [rack.names(), rack.faults()])
            self.assertEqual(write_rack(read), write_rack(rack))

    def test_drawn_racks(self):
        source = random.Random(32)
        for _ in range(100):
            rack = drawn_rack(source, source.sample(LETTERS, source.randint(0, 9)))
            read = read_rack(write_rack(rack))
            self.assertEqual([read.names(), read.faults()], [rack.names(), rack.faults()])
            for name in rack.names():
                self.assertIs(type(read.gauge(name)), type(rack.gauge(name)))
                self.assertEqual(vars(read.gauge(name)), vars(rack.gauge(name)))

    def test_together_lines_and_their_names_in_any_order(self):
        lines = "b 3\na 1\nd 0\nc 4"
        for text in (f"{lines}\ntogether c d\ntogether a b", f"{lines}\ntogether a b\ntogether d c"):
            self.assertEqual(read_rack(text).faults(), [["b", "a"], ["d", "c"]])
            self.assertEqual(write_rack(read_rack(text)), f"{lines}\ntogether b a\ntogether d c")
        self.assertEqual(read_rack(f"{lines}\ntogether c a b").faults(), [["b", "a", "c"], ["d"]])

    def test_names_that_begin_like_words(self):
        text = "togethera 1\ntogetherb 2\nrankx 3\nweighx 4\nstep 5\ntogether rankx togethera\ntogether step weighx"
        self.assertEqual(read_rack(text).faults(), [["togethera", "rankx"], ["togetherb"], ["weighx", "step"]])

    def test_each_wrong_line_has_its_number(self):
        for text, line in (
                ("\n", 1), ("\n\n", 1), ("a 1\n", 2), ("a 1\n\n", 2), ("\na 1", 1), ("a 1\n\nb 1", 2), ("a 1\nb 2\n", 3),
                ("a 1\nb 2\ntogether a b\n", 4), ("a 1\nb 2\n\ntogether a b", 3), ("a 1\nb 1\ntogether a b\n\n", 4),
                (" ", 1), ("x", 1), ("a", 1), ("a x", 1), ("a 01", 1), ("a 1\nb", 2), ("a 1\nb 1 step 0", 2),
                ("a 1\nrank 1", 2), ("a 1\nb -1\nc x", 2), ("a 1\r\nb 1", 1), (f"a {LONG}0", 1),
                ("a 1\na 1", 2), ("a 1\nb 1\na 2\nb 2", 3), ("a 1\na 1 step 4", 2),
                ("together", 1), ("together ", 1), ("together a", 1), ("a 1\ntogether", 2), ("a 1\ntogether a", 2),
                ("a 1\ntogether a ", 2), ("a 1\ntogether  a", 2), ("a 1\nb 1\ntogether a  b", 3),
                ("a 1\nb 1\ntogether  a b", 3), ("a 1\nb 1\ntogether a b ", 3), ("a 1\nb 1\n together a b", 3),
                ("a 1\nb 1\ntogether a, b", 3), ("a 1\ntogether 1", 2), ("a 1\ntogether 1 step 1", 2),
                ("a 1\nb 1\ntogether a c", 3), ("a 1\nb 1\ntogether c a", 3), ("a 1\ntogether a b\nb 1", 2),
                ("a 1\nb 1\ntogether a a", 3), ("a 1\nb 1\ntogether a b a", 3), ("a 1\nb 1\nc 1\ntogether a b\ntogether b c", 5),
                ("a 1\nb 1\nc 1\ntogether a b\ntogether a b", 5), ("a 1\nb 1\nc 1\ntogether a b\ntogether c", 5),
                ("a 1\nb 1\ntogether a b\nc 1", 4), ("a 1\nb 1\ntogether a b\nx", 4), ("a 1\nb 1\ntogether a b\na 1", 4),
                ("a 1\nb 1\ntogether a b\nc 1\ntogether x y", 4), ("a 1\nb 1\nTogether a b", 3),
                ("a 1\nb 1\ntogether a b\ntogethera 1", 4), ("a 1\nb\ntogether a c", 2), ("together a b\na 1\nb 1", 1)):
            self.refuses(BadLine, {"line": line}, read_rack, text)

    def test_an_empty_line_at_every_place(self):
        lines = ["a 1", "b 2", "c 3", "d 4", "together d a", "together b c"]
        self.assertEqual(read_rack("\n".join(lines)).faults(), [["a", "d"], ["b", "c"]])
        for at in range(len(lines) + 1):
            text = "\n".join([*lines[:at], "", *lines[at:]])
            self.refuses(BadLine, {"line": at + 1}, read_rack, text)

    def test_the_first_of_two_wrong_lines(self):
        lines = ["a 1", "b 2", "c 3", "d 4", "together d a", "together b c"]
        for first in range(len(lines)):
            for second in range(first + 1, len(lines)):
                spoiled = ["together" if at in (first, second) else line for at, line in enumerate(lines)]
                self.refuses(BadLine, {"line": first + 1}, read_rack, "\n".join(spoiled))


if __name__ == "__main__":
    unittest.main()
