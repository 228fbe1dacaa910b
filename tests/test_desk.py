"""Points 51, 52 and 55."""

import inspect
import random
import unittest

from gaugemiss.desk import Desk, SteadyDesk
from gaugemiss.errors import BadLiars, MissingReading, NoTick, NotPossible, NoTruth, UnknownGauge
from gaugemiss.gauges import CoarseGauge, Gauge, Rack
from gaugemiss.notation import read_rule
from gaugemiss.rules import Leaf, Rank, Trim
from gaugemiss.stretch import Levels, Stretch
from tests.checks import BIG, Checks, stretches
from tests.drawing import LETTERS, full_rack
from tests.following import KINDS, drawn_pair, drawn_readings, look, look_deep


def small_rack(together=()):
    return Rack(Gauge("a", 1), Gauge("b", 4), Gauge("c", 2), together=together)


def ends(*sets):
    return [levels.ends() for levels in sets]


class Creating(Checks):
    def test_without_a_tick(self):
        for kind in KINDS:
            for liars in range(4):
                desk = kind(small_rack(), Stretch(-5, 9), liars=liars, pace=3)
                self.assertIsInstance(desk.now, Levels)
                self.assertEqual([desk.now.ends(), desk.allowed, len(desk)], [[(-5, 9)], liars, 0])
                self.assertEqual([desk.story(-5), desk.story(9), desk.wrong_now(), list(desk.walk())], [[], [], [], []])

    def test_the_defaults(self):
        for kind in KINDS:
            desk = kind(small_rack(), Stretch(0, 100))
            self.assertEqual(desk.allowed, 0)
            self.assertEqual(ends(desk.record({"a": 10}), desk.record({"b": 14}), desk.record({"c": 8})),
                             [[(9, 11)], [(10, 11)], [(10, 10)]])

    def test_bad_liars(self):
        for kind in KINDS:
            for together, most in (((), 3), ((("a", "c"),), 2), ((("b", "a", "c"),), 1)):
                rack = small_rack(together)
                for liars in (-1, -BIG, most + 1, BIG):
                    self.refuses(BadLiars, {"number": liars}, kind, rack, Stretch(0, 1), liars=liars, pace=2)
                self.assertEqual(kind(rack, Stretch(0, 1), liars=most).allowed, most)
            self.refuses(BadLiars, {"number": 1}, kind, Rack(), Stretch(0, 1), liars=1)

    def test_a_steady_desk_is_a_desk(self):
        self.assertEqual(SteadyDesk.__bases__, (Desk,))
        self.assertIsInstance(SteadyDesk(small_rack(), Stretch(0, 1)), Desk)

    def test_the_empty_rack(self):
        for kind in KINDS:
            desk = kind(Rack(), Stretch(0, 4), pace=2)
            self.assertEqual(ends(desk.record({}), desk.record({})), [[(-2, 6)], [(-4, 8)]])
            self.assertEqual(ends(desk.at(0), desk.smoothed(0)), [[(-2, 6)], [(-2, 6)]])
            self.refuses(UnknownGauge, {"name": "a"}, desk.record, {"a": 1})
            self.assertEqual(desk.story(-4), [(-2, []), (-4, [])])


class Recording(Checks):
    def test_the_example(self):
        desk = Desk(small_rack(), Stretch(0, 100), liars=1, pace=3)
        first = desk.record({"a": 10, "b": 13, "c": 60})
        second = desk.record({"b": 20})
        self.assertEqual(ends(first, second, desk.smoothed(0), desk.smoothed(1), desk.at(0), desk.now),
                         [[(9, 11)], [(6, 14)], [(9, 11)], [(6, 14)], [(9, 11)], [(6, 14)]])

    def test_the_level_moves_on_the_way_to_tick_0_already(self):
        for kind in KINDS:
            desk = kind(small_rack(), Stretch(0, 10), pace=3)
            self.assertEqual(ends(desk.record({}), desk.record({"a": 15}), desk.record({})),
                             [[(-3, 13)], [(14, 16)], [(11, 19)]])
            self.assertEqual(ends(desk.smoothed(0), desk.smoothed(1), desk.smoothed(2)),
                             [[(11, 13)], [(14, 16)], [(11, 19)]])

    def test_pieces_stay_apart(self):
        desk = Desk(Rack(Gauge("a", 1), Gauge("b", 1)), Stretch(-50, 50), liars=1, pace=1)
        self.assertEqual(ends(desk.record({"a": 0, "b": 20}), desk.record({})),
                         [[(-1, 1), (19, 21)], [(-2, 2), (18, 22)]])
        self.assertEqual(desk.record({"a": -2, "b": 60}).ends(), [(-3, -1)])
        self.assertEqual(ends(desk.smoothed(0), desk.smoothed(1)), [[(-1, 1)], [(-2, 0)]])

    def test_others_may_lie_at_each_tick_of_a_desk_only(self):
        rows = [{"a": 0, "b": 20, "c": 0}, {"a": 20, "b": 0, "c": 0}]
        rack = Rack(*[Gauge(name, 1) for name in "abc"])
        desk, steady = [kind(rack, Stretch(-50, 50), liars=1, pace=1) for kind in KINDS]
        self.assertEqual(ends(desk.record(rows[0]), desk.record(rows[1])), [[(-1, 1)], [(-1, 1)]])
        self.assertEqual(steady.record(rows[0]).ends(), [(-1, 1)])
        before = look_deep(steady)
        self.refuses(NoTruth, {"tick": 1}, steady.record, rows[1])
        self.assertEqual(look_deep(steady), before)
        self.assertEqual(steady.record({"b": 20, "a": 1}).ends(), [(0, 2)])

    def test_all_faults_may_lie(self):
        for kind in KINDS:
            desk = kind(small_rack((("a", "b"),)), Stretch(0, 1), liars=2, pace=1)
            self.assertEqual(ends(desk.record({"a": 900, "b": -900, "c": 5000}), desk.record({})),
                             [[(-1, 2)], [(-2, 3)]])

    def test_as_many_liars_as_present_faults(self):
        desk = Desk(small_rack(), Stretch(0, 9), liars=1)
        self.assertEqual(ends(desk.record({"a": 900}), desk.record({}), desk.record({"a": 900, "b": 5})),
                         [[(0, 9)], [(0, 9)], [(1, 9)]])
        steady = SteadyDesk(small_rack(), Stretch(0, 9), liars=1)
        self.assertEqual(ends(steady.record({"a": 900}), steady.record({}), steady.record({"a": 900, "b": 5})),
                         [[(0, 9)], [(0, 9)], [(1, 9)]])
        self.assertEqual(ends(steady.record({"b": 6}), steady.smoothed(0)), [[(2, 9)], [(2, 9)]])

    def test_a_fault_whose_gauges_contradict_each_other_lies(self):
        for kind in KINDS:
            desk = kind(small_rack((("a", "c"),)), Stretch(0, 99), liars=1, pace=1)
            self.assertEqual(desk.record({"a": 3, "c": 30, "b": 60}).ends(), [(56, 64)])
            self.refuses(NoTruth, {"tick": 1}, desk.record, {"a": 3, "c": 30, "b": 90})

    def test_errors_without_any_change(self):
        for kind in KINDS:
            desk = kind(small_rack(), Stretch(0, 9), liars=1, pace=1)
            desk.record({"a": 3})
            desk.record({"b": 3})
            desk.undo()
            before = look_deep(desk)
            rows = (({"x": 1}, "x"), ({"b": 1, "z": 0, "ab": 1, "y": 900}, "ab"),
                    ({"c": 900, "a": -900, "d": 0, "Z": 0}, "Z"),
                    ({"": 1, "a": 5}, ""))
            for readings, name in rows:
                self.refuses(UnknownGauge, {"name": name}, desk.record, readings)
                self.assertEqual(look_deep(desk), before)
            self.refuses(NoTruth, {"tick": 1}, desk.record, {"a": 70, "b": -70, "c": 30})
            self.assertEqual(look_deep(desk), before)
            self.refuses(NoTruth, {"tick": 0}, kind(small_rack(), Stretch(0, 9)).record, {"b": 14})

    def test_no_such_tick(self):
        for kind in KINDS:
            desk = kind(small_rack(), Stretch(0, 9))
            for many in range(3):
                for tick in (-1, -2, -BIG, many, many + 1, BIG):
                    self.refuses(NoTick, {"tick": tick}, desk.at, tick)
                    self.refuses(NoTick, {"tick": tick}, desk.smoothed, tick)
                desk.record({"a": 5})

    def test_drawn_desks(self):
        source = random.Random(51)
        refused = 0
        for turn in range(160):
            desk, model = drawn_pair(source, KINDS[turn % 2])
            for tick in range(4):
                readings = drawn_readings(source, model.rack)
                after = model.copied(model.rows + [readings])
                if after.first_false() is None:
                    model = after
                    self.assertEqual(desk.record(readings).ends(), model.now())
                else:
                    refused += 1
                    self.refuses(NoTruth, {"tick": len(model.rows)}, desk.record, readings)
                self.assertEqual([len(desk), desk.now.ends()], [len(model.rows), model.now()])
                for earlier in range(len(model.rows)):
                    self.assertEqual(desk.at(earlier).ends(), model.at(earlier))
                    self.assertEqual(desk.smoothed(earlier).ends(), model.smoothed(earlier))
        self.assertTrue(30 < refused < 500)

    def test_stories_of_a_steady_desk_are_stories_of_a_desk(self):
        source = random.Random(511)
        for _ in range(40):
            steady, model = drawn_pair(source, SteadyDesk)
            desk = Desk(model.rack, model.start, liars=model.liars, pace=model.pace)
            for _ in range(5):
                readings = drawn_readings(source, model.rack)
                try:
                    levels = steady.record(readings)
                except NoTruth:
                    continue
                self.assertEqual((levels - desk.record(readings)).ends(), [])
            for tick in range(len(desk)):
                self.assertEqual((steady.smoothed(tick) - desk.smoothed(tick)).ends(), [])

    def test_full_size(self):
        far = 10 ** 60 - 1
        for kind in KINDS:
            for liars in (0, 4, 5, 9):
                desk = kind(full_rack(), Stretch(-far, far), liars=liars, pace=7)
                for tick in range(70):
                    self.assertTrue(far // 3 in desk.record({name: far // 3 + tick + at for at,
                                                             name in enumerate(LETTERS)}))
                self.assertEqual(len(desk), 70)
                for tick in (0, 1, 35, 69):
                    self.assertEqual((desk.smoothed(tick) - desk.at(tick)).ends(), [])
                    self.assertTrue(far // 3 in desk.smoothed(tick))
                self.assertEqual(desk.smoothed(69), desk.now)

    def test_many_pieces(self):
        far = 10 ** 58
        desk = Desk(Rack(*[Gauge(name, far) for name in LETTERS]), Stretch(-90 * far, 90 * far), liars=8)
        for tick in range(70):
            levels = desk.record({name: 18 * far * at - 72 * far + tick for at, name in enumerate(LETTERS)})
            self.assertEqual(levels.ends(), [(18 * far * at - 73 * far + tick,
                                              18 * far * at - 71 * far) for at in range(9)])
        self.assertEqual(desk.smoothed(0), desk.now)


class Now(Checks):
    def check_now(self, desk, *pairs):
        """The property gives new Levels with these pieces each time, and asking for them changes nothing."""
        before = look(desk)
        for _ in range(3):
            self.assertIs(type(desk.now), Levels)
            self.assertEqual([desk.now.ends(), desk.now], [list(pairs), Levels(*stretches(*pairs))])
            self.assertIsNot(desk.now, desk.now)
        self.assertEqual(look(desk), before)

    def test_before_the_first_tick(self):
        for kind in KINDS:
            for low, high in ((0, 0), (-5, 9), (-BIG, BIG)):
                for liars in range(4):
                    # On a SteadyDesk each of the ways to lie has the whole start, and together they are one piece.
                    self.check_now(kind(small_rack(), Stretch(low, high), liars=liars, pace=3), (low, high))
            self.check_now(kind(Rack(), Stretch(2, 4), pace=1), (2, 4))
            desk = kind(small_rack(), Stretch(0, 9))
            self.refuses(NoTruth, {"tick": 0}, desk.record, {"b": 14})
            self.check_now(desk, (0, 9))
            desk.record({"a": 3})
            desk.undo()
            self.check_now(desk, (0, 9))

    def test_after_ticks(self):
        for kind in KINDS:
            desk = kind(small_rack(), Stretch(0, 10), pace=3)
            for readings, pair in (({}, (-3, 13)), ({"a": 15}, (14, 16)), ({}, (11, 19)), ({"c": 8}, (8, 10))):
                self.assertEqual(desk.record(readings), Levels(Stretch(*pair)))
                self.check_now(desk, pair)
            self.refuses(NoTruth, {"tick": 4}, desk.record, {"a": 50})
            self.check_now(desk, (8, 10))
            desk.undo()
            self.check_now(desk, (11, 19))

    def test_the_ways_to_lie_together(self):
        rack = Rack(*[Gauge(name, 2) for name in "abc"])
        rows = (({"a": 0, "b": 20}, [(-2, 2), (18, 22)]),                # apart
                ({"a": 20, "b": 0}, [(-2, 2), (18, 22)]),                # apart, the first way above the second one
                ({"a": 0, "b": 5}, [(-2, 7)]),                           # they touch
                ({"a": 0, "b": 6}, [(-2, 2), (4, 8)]),                   # one level is missing between them
                ({"a": 0, "b": 3}, [(-2, 5)]),                           # they overlap
                ({"a": 0, "b": 0}, [(-2, 2)]),                           # they are equal
                ({"a": 0, "b": 3, "c": 20}, [(1, 2)]),                   # two of the three ways leave no level
                ({"a": 0, "b": 3, "c": 7}, [(1, 2), (5, 5)]),            # one of them does
                ({"a": 0}, [(-50, 50)]), ({}, [(-50, 50)]))              # a way that leaves all levels takes in the rest
        for kind in KINDS:
            for readings, pairs in rows:
                desk = kind(rack, Stretch(-50, 50), liars=1)
                desk.record(readings)
                self.check_now(desk, *pairs)

    def test_each_way_to_lie_goes_on_by_itself(self):
        rack = Rack(*[Gauge(name, 2) for name in "abc"])
        desk = SteadyDesk(rack, Stretch(-50, 50), liars=1, pace=1)
        steps = (({"a": 0, "b": 20}, [(-2, 2), (18, 22)]), ({}, [(-3, 3), (17, 23)]), ({"a": 4}, [(2, 4), (16, 24)]),
                 ({"c": 18, "b": 17}, [(16, 19)]))
        for readings, pairs in steps:
            desk.record(readings)
            self.check_now(desk, *pairs)
        for _, pairs in steps[-2::-1]:
            desk.undo()
            self.check_now(desk, *pairs)
        desk.undo()
        self.check_now(desk, (-50, 50))

    def test_nine_ways_in_nine_pieces(self):
        far = 10 ** 60 - 1
        rack = Rack(*[Gauge(name, 1) for name in LETTERS])
        for kind in KINDS:
            desk = kind(rack, Stretch(-far, far), liars=8)
            self.check_now(desk, (-far, far))
            desk.record({name: 10 * at for at, name in list(enumerate(LETTERS))[::-1]})
            self.check_now(desk, *[(10 * at - 1, 10 * at + 1) for at in range(9)])


class Stories(Checks):
    def check_stories(self, desk, kind, rack, start, pace):
        rows = [readings for _, readings, _ in desk.walk()]
        for piece in desk.now:
            for level in {piece.low, piece.high, (piece.low + piece.high) // 2}:
                story = desk.story(level)
                self.assertEqual([type(story), {type(pair) for pair in story}], [list, {tuple} if rows else set()])
                levels = [step for step, _ in story]
                self.assertEqual(len(levels), len(desk))
                self.assertEqual(levels[-1:], [level][:len(rows)])
                self.assertTrue(all(abs(one - other) <= pace for one, other in zip(levels, levels[1:])))
                self.assertTrue(not rows or abs(start.nearest(levels[0]) - levels[0]) <= pace)
                blames = [rack.blame(readings, step) for readings, step in zip(rows, levels)]
                self.assertEqual([names for _, names in story], blames)
                for blame in [sum(blames, [])] if kind is SteadyDesk else blames:
                    self.assertLessEqual(rack.fault_count(blame), desk.allowed)
        for beside in [level for piece in desk.now for level in (piece.low - 1, piece.high + 1)] + [BIG, -BIG]:
            self.refuses(NotPossible, {"level": beside}, desk.story, beside)

    def test_drawn_stories(self):
        source = random.Random(55)
        for turn in range(120):
            kind = KINDS[turn % 2]
            desk, model = drawn_pair(source, kind, "abcdefg", 3)
            for _ in range(7):
                self.check_stories(desk, kind, model.rack, model.start, model.pace)
                try:
                    desk.record(drawn_readings(source, model.rack))
                except NoTruth:
                    pass
            self.check_stories(desk, kind, model.rack, model.start, model.pace)

    def test_hand_worked(self):
        for kind in KINDS:
            desk = kind(small_rack(), Stretch(0, 9), liars=1, pace=1)
            desk.record({"a": 3, "b": 60, "c": 3})
            self.assertEqual(desk.story(2), [(2, ["b"])])
            desk.record({"b": 50, "c": 7})
            desk.record({"a": 6, "b": 60})
            self.assertEqual(desk.now.ends(), [(5, 6)])
            self.assertEqual(desk.story(5), [(4, ["b"]), (5, ["b"]), (5, ["b"])])
            self.assertEqual(desk.story(6), [(4, ["b"]), (5, ["b"]), (6, ["b"])])

    def test_full_size(self):
        far = 10 ** 60 - 1
        for kind in KINDS:
            for liars in (0, 4, 9):
                rack = full_rack()
                desk = kind(rack, Stretch(-far, far), liars=liars, pace=far // 50)
                for tick in range(70):
                    desk.record({name: (tick + at) * far // 60 for at, name in enumerate(LETTERS)})
                self.check_stories(desk, kind, rack, Stretch(-far, far), far // 50)

    def test_not_possible_without_a_tick(self):
        for kind in KINDS:
            desk = kind(small_rack(), Stretch(-5, 9), pace=3)
            for level in (-6, 10, BIG):
                self.refuses(NotPossible, {"level": level}, desk.story, level)

    def test_a_story_is_new(self):
        desk = Desk(small_rack(), Stretch(0, 9), liars=1)
        desk.record({"a": 3, "b": 60})
        desk.story(3).clear()
        desk.story(3)[0][1].append("x")
        self.assertEqual(desk.story(3), [(3, ["b"])])


class Looking(Checks):
    def test_walk(self):
        for kind in KINDS:
            desk = kind(small_rack(), Stretch(0, 9), liars=1, pace=1)
            rows = [{"a": 3, "b": 60}, {}, {"c": 4, "b": 5, "a": 4}]
            for readings in rows:
                desk.record(readings)
            self.assertTrue(inspect.isgenerator(desk.walk()))
            found = list(desk.walk())
            self.assertEqual([{type(each) for each in found}, [each[:2] for each in found]],
                             [{tuple}, list(enumerate(rows))])
            self.assertEqual([levels for _, _, levels in found], [desk.at(tick) for tick in range(3)])

    def test_walk_yields_copies(self):
        desk = Desk(small_rack(), Stretch(0, 9), liars=1, pace=1)
        desk.record({"a": 3})
        before = look(desk)
        for _, readings, levels in desk.walk():
            readings.clear()
            readings["x"] = 5
            levels[0].low = -99
        self.assertEqual(look(desk), before)

    def test_answer(self):
        for kind in KINDS:
            desk = kind(small_rack(), Stretch(0, 9), liars=3)
            for rule in (Leaf("a"), Rank(0, Leaf("x"), Leaf("b"))):
                self.refuses(NoTick, {"tick": 0}, desk.answer, rule)
            desk.record({"a": 30, "b": 7, "c": 6})
            self.assertEqual([desk.answer(Rank.median(Leaf("c"), Leaf("a"), Leaf("b"))), desk.answer(Leaf("a"))],
                             [7, 30])
            desk.record({"a": 3, "c": -4})
            self.assertEqual([desk.answer(Leaf("c")), desk.answer(Trim(0, Leaf("a"), Leaf("c")))], [-4, -1])
            self.refuses(MissingReading, {"name": "b"}, desk.answer, read_rule("rank 0 (a, rank 1 (b, x))"))
            self.refuses(MissingReading, {"name": "x"}, desk.answer, read_rule("rank 0 (a, x, b)"))
            desk.record({})
            self.refuses(MissingReading, {"name": "a"}, desk.answer, Leaf("a"))
            desk.undo()
            self.assertEqual(desk.answer(Leaf("a")), 3)

    def test_doubt(self):
        for kind in KINDS:
            desk = kind(Rack(Gauge("a", 1), Gauge("b", 1)), Stretch(-4, 9), liars=1, pace=0)
            self.assertEqual([desk.doubt(answer) for answer in (-4, 9, 2, 3, 100, -100)], [13, 13, 7, 7, 104, 109])
            desk.record({"a": -2, "b": 6})
            self.assertEqual(desk.now.ends(), [(-3, -1), (5, 7)])
            self.assertEqual([desk.doubt(answer) for answer in (2, 1, 3, -3, 7, BIG)], [5, 6, 6, 10, 10, BIG + 3])

    def test_wrong_now(self):
        for kind, rows in ((Desk, [[(9, 13)], [(8, 10), (15, 15)], ["d"]]),
                           (SteadyDesk, [[(13, 13)], [(15, 15)], ["c", "d"]])):
            desk = kind(Rack(*[Gauge(name, 1) for name in "cabd"]), Stretch(0, 99), liars=2, pace=2)
            self.assertEqual(desk.wrong_now(), [])
            desk.record({"a": 10, "b": 12, "c": 40, "d": 50})
            self.assertEqual([desk.now.ends(), desk.wrong_now()], [[(11, 11)], ["c", "d"]])
            desk.record({"a": 14, "d": 90})
            self.assertEqual([desk.now.ends(), desk.wrong_now()], [rows[0], ["d"]])
            desk.record({"d": 17, "c": 9, "a": 16})
            self.assertEqual([desk.now.ends(), desk.wrong_now()], rows[1:])
            desk.record({})
            self.assertEqual(desk.wrong_now(), [])
            desk.wrong_now().append("x")
            self.assertEqual(desk.wrong_now(), [])

    def test_wrong_now_with_levels_between_the_pieces(self):
        desk = Desk(Rack(*[Gauge(name, 1) for name in "abc"]), Stretch(0, 99), liars=1)
        desk.record({"a": 10, "b": 50})
        self.assertEqual(desk.record({"c": 30}).ends(), [(9, 11), (49, 51)])
        self.assertEqual(desk.wrong_now(), ["c"])
        desk.tell_late("c", 1, 48)
        self.assertEqual(desk.wrong_now(), [])
        desk.tell_late("c", 1, 47)
        self.assertEqual(desk.wrong_now(), ["c"])

    def test_one_sided_slacks(self):
        desk = Desk(Rack(CoarseGauge("a", 0, step=5), Gauge("b", 0)), Stretch(0, 99), liars=0)
        self.assertEqual(desk.record({"a": 10}).ends(), [(10, 14)])
        self.assertEqual(desk.record({"b": 14}).ends(), [(14, 14)])
        self.refuses(NoTruth, {"tick": 2}, desk.record, {"a": 15})

    def test_drawn_wrong_now(self):
        source = random.Random(552)
        for turn in range(60):
            desk, model = drawn_pair(source, KINDS[turn % 2])
            for _ in range(4):
                readings = drawn_readings(source, model.rack)
                try:
                    desk.record(readings)
                except NoTruth:
                    continue
                possible = [level for piece in desk.now for level in range(piece.low, piece.high + 1)]
                wrong = [name for name in model.rack.names() if name in readings
                         and not any(model.rack.gauge(name).honest(readings[name], level) for level in possible)]
                self.assertEqual(desk.wrong_now(), wrong)
                for answer in (-30, 0, 3, 4, 50):
                    self.assertEqual(desk.doubt(answer), max(abs(level - answer) for level in possible))


class Copies(Checks):
    def test_readings_may_change_afterwards(self):
        for kind in KINDS:
            desk = kind(small_rack(), Stretch(0, 9), liars=1, pace=1)
            row, rows = {"a": 3, "b": 4}, [{"a": 5}, {"c": 5}]
            desk.record(row)
            desk.trial(rows)
            self.assertEqual([row, rows], [{"a": 3, "b": 4}, [{"a": 5}, {"c": 5}]])
            before = look(desk)
            row.clear()
            row["x"] = 9
            self.assertEqual(look(desk), before)
            desk.allow(2)
            desk.allow(1)
            self.assertEqual(look(desk), before)
            desk.tell_late("c", 0, 3)
            self.assertEqual(next(iter(desk.walk()))[1], {"a": 3, "b": 4, "c": 3})

    def test_what_is_returned_is_new(self):
        for kind in KINDS:
            start = Stretch(0, 9)
            desk = kind(small_rack(), start, liars=1, pace=1)
            start.low = -70
            desk.now[0].low = -99
            self.assertEqual(desk.now.ends(), [(0, 9)])
            desk.record({"a": 3})
            before = look(desk)
            for levels in (desk.now, desk.at(0), desk.smoothed(0), desk.record({"b": 5}), desk.trial([{"b": 3}])[0]):
                levels[0].low = -99
                levels.ends().clear()
            desk.trial([{"b": 3}]).clear()
            desk.undo()
            self.assertEqual(look(desk), before)


if __name__ == "__main__":
    unittest.main()
