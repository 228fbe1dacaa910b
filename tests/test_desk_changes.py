"""Points 53 and 54."""

import random
import unittest

from gaugemiss.desk import Desk, SteadyDesk
from gaugemiss.errors import (BadLiars, GaugeError, NoTick, NothingToRedo, NothingToUndo, NoTruth, NotPossible,
                              UnknownGauge)
from gaugemiss.gauges import Gauge, Rack
from gaugemiss.stretch import Stretch
from tests.checks import BIG, Checks
from tests.drawing import LETTERS, full_rack
from tests.following import KINDS, drawn_pair, drawn_readings, look, look_deep


def rack_of(letters, radius=1):
    return Rack(*[Gauge(letter, radius) for letter in letters])


def desk_of(kind, rows, letters="abc", liars=1, pace=1, high=99):
    desk = kind(rack_of(letters), Stretch(0, high), liars=liars, pace=pace)
    for readings in rows:
        desk.record(readings)
    return desk


def recorded_pair(source, kind, names):
    """A desk with those of three drawn ticks that it takes, and a model of it."""
    desk, model = drawn_pair(source, kind, names)
    for _ in range(3):
        readings = drawn_readings(source, model.rack)
        after = model.copied(model.rows + [readings])
        if after.first_false() is None:
            model = after
            desk.record(readings)
    return desk, model


def rows_of(desk):
    return [readings for _, readings, _ in desk.walk()]


class Late(Checks):
    def test_it_adds_and_replaces(self):
        for kind in KINDS:
            desk = desk_of(kind, [{"a": 10}, {}, {"b": 12}], liars=0)
            self.assertEqual(desk.now.ends(), [(11, 13)])
            self.assertEqual(desk.tell_late("c", 1, 12).ends(), [(11, 13)])
            self.assertEqual(rows_of(desk), [{"a": 10}, {"c": 12}, {"b": 12}])
            self.assertEqual(desk.at(1).ends(), [(11, 12)])
            self.assertEqual(desk.tell_late("a", 0, 11).ends(), [(11, 13)])
            self.assertEqual(rows_of(desk), [{"a": 11}, {"c": 12}, {"b": 12}])
            self.assertEqual(desk.at(0).ends(), [(10, 12)])
            self.assertEqual(desk.tell_late("b", 2, 14), desk.now)
            self.assertEqual(desk.now.ends(), [(13, 14)])
            self.assertEqual(desk.smoothed(0).ends(), [(11, 12)])
            self.assertEqual(desk.tell_late(name="b", tick=2, reading=15).ends(), [(14, 14)])

    def test_errors_in_their_order_without_any_change(self):
        for kind in KINDS:
            desk = desk_of(kind, [{"a": 10}, {"b": 10}, {"a": 10, "c": 60}, {"c": 10, "b": 9}])
            desk.undo()
            before = look_deep(desk)
            for tick in (-1, 3, 0, BIG):
                for name in ("x", "", "rank"):
                    self.refuses(UnknownGauge, {"name": name}, desk.tell_late, name, tick, 999)
            for tick in (-1, -3, 3, 4, BIG, -BIG):
                self.refuses(NoTick, {"tick": tick}, desk.tell_late, "a", tick, 999)
            self.assertEqual(look_deep(desk), before)
            self.refuses(UnknownGauge, {"name": "d"}, kind(rack_of("abc"), Stretch(0, 1)).tell_late, "d", 0, 0)
            self.refuses(NoTick, {"tick": 0}, kind(rack_of("abc"), Stretch(0, 1)).tell_late, "a", 0, 0)

    def test_the_first_tick_without_truth(self):
        rows = [{"a": 10}, {}, {}, {"b": 12}, {}]
        for kind in KINDS:
            desk = desk_of(kind, rows, liars=0)
            before = look_deep(desk)
            for name, tick, reading, first in (("b", 0, 13, 0), ("b", 1, 14, 1), ("a", 0, 102, 0), ("a", 0, 18, 3),
                                               ("a", 0, 6, 3), ("c", 2, 20, 2), ("c", 4, 20, 4), ("b", 3, 16, 3),
                                               ("c", 1, 7, 3), ("c", 0, 13, 0)):
                self.refuses(NoTruth, {"tick": first}, desk.tell_late, name, tick, reading)
                self.assertEqual(look_deep(desk), before)
            self.assertEqual(desk.tell_late("a", 0, 16).ends(), [(11, 14)])

    def test_other_liars_at_other_ticks(self):
        rows = [{"a": 10, "b": 50, "c": 10}, {"a": 10, "b": 10}]
        desk, steady = [desk_of(kind, rows) for kind in KINDS]
        self.assertEqual(desk.tell_late("c", 1, 50).ends(), [(9, 11)])
        self.refuses(NoTruth, {"tick": 1}, steady.tell_late, "c", 1, 50)
        self.assertEqual(steady.tell_late("b", 1, 50).ends(), [(9, 11)])

    def test_drawn_late_readings(self):
        source = random.Random(53)
        refused = 0
        for turn in range(60):
            desk, model = recorded_pair(source, KINDS[turn % 2], "abc")
            for _ in range(4 if model.rows else 0):
                name, tick = source.choice(model.rack.names()), source.randrange(len(model.rows))
                reading = source.randint(-2, 8)
                after = model.copied()
                after.rows[tick][name] = reading
                first = after.first_false()
                if first is None:
                    model = after
                    self.assertEqual(desk.tell_late(name, tick, reading).ends(), model.now())
                else:
                    refused += 1
                    self.refuses(NoTruth, {"tick": first}, desk.tell_late, name, tick, reading)
                self.check_same(desk, model)
        self.assertTrue(15 < refused < 150)

    def check_same(self, desk, model):
        ticks = range(len(model.rows))
        self.assertEqual([rows_of(desk), desk.now.ends(), desk.allowed], [model.rows, model.now(), model.liars])
        self.assertEqual([desk.at(tick).ends() for tick in ticks], [model.at(tick) for tick in ticks])
        self.assertEqual([desk.smoothed(tick).ends() for tick in ticks], [model.smoothed(tick) for tick in ticks])

    def test_drawn_numbers_of_liars(self):
        source = random.Random(531)
        refused = 0
        for turn in range(60):
            desk, model = recorded_pair(source, KINDS[turn % 2], "abcd")
            for liars in source.sample(range(len(model.rack.faults()) + 1), len(model.rack.faults()) + 1):
                after = model.copied(liars=liars)
                first = after.first_false()
                if first is None:
                    model = after
                    self.assertIsNone(desk.allow(liars))
                else:
                    refused += 1
                    self.refuses(NoTruth, {"tick": first}, desk.allow, liars)
                self.check_same(desk, model)
        self.assertTrue(10 < refused < 150)


class Allowing(Checks):
    def test_up_and_down(self):
        for kind in KINDS:
            desk = desk_of(kind, [{"a": 10, "b": 11, "c": 60}, {"a": 10, "b": 11}], liars=1, pace=0)
            self.assertEqual([desk.now.ends(), desk.allowed], [[(10, 11)], 1])
            desk.allowed = 2
            self.assertEqual([desk.allowed, desk.now.ends()], [2, [(9, 12), (59, 61)]])
            self.assertIsNone(desk.allow(3))
            self.assertEqual([desk.allowed, desk.now.ends(), desk.at(0).ends()], [3, [(0, 99)], [(0, 99)]])
            desk.allowed = 1
            self.assertEqual([desk.allowed, desk.now.ends()], [1, [(10, 11)]])
            self.assertIsNone(desk.allow(liars=2))
            self.assertEqual(desk.allowed, 2)

    def test_refused_numbers(self):
        for kind in KINDS:
            desk = desk_of(kind, [{"a": 10, "b": 10}, {"a": 10, "b": 50}, {"c": 9}], liars=1)
            desk.undo()
            before = look_deep(desk)
            for assign in (desk.allow, lambda liars, desk=desk: setattr(desk, "allowed", liars)):
                for liars in (-1, 4, BIG, -BIG):
                    self.refuses(BadLiars, {"number": liars}, assign, liars)
                self.refuses(NoTruth, {"tick": 1}, assign, 0)
                self.assertEqual(look_deep(desk), before)

    def test_bad_liars_come_ahead_of_no_truth(self):
        desk = desk_of(Desk, [{"a": 10, "b": 50}], liars=1)
        self.refuses(BadLiars, {"number": -1}, desk.allow, -1)
        self.refuses(NoTruth, {"tick": 0}, desk.allow, 0)

    def test_groups(self):
        rack = Rack(*[Gauge(name, 1) for name in "abc"], together=(("a", "c"),))
        for kind in KINDS:
            desk = kind(rack, Stretch(0, 99), liars=1)
            desk.record({"a": 10, "b": 50, "c": 80})
            self.refuses(BadLiars, {"number": 3}, desk.allow, 3)
            self.refuses(NoTruth, {"tick": 0}, desk.allow, 0)
            desk.allow(2)
            self.assertEqual(desk.now.ends(), [(0, 99)])

    def test_a_steady_desk_with_more_liars_brings_back_levels(self):
        steady = desk_of(SteadyDesk, [{"a": 10, "b": 20}, {"a": 10, "c": 20}, {"b": 30}], liars=2)
        self.assertEqual(steady.now.ends(), [(8, 12), (18, 22)])
        self.refuses(NoTruth, {"tick": 2}, steady.allow, 1)
        self.refuses(NoTruth, {"tick": 0}, steady.allow, 0)
        steady.allow(3)
        self.assertEqual(steady.now.ends(), [(-3, 102)])
        steady.allow(2)
        self.assertEqual(steady.now.ends(), [(8, 12), (18, 22)])


class UndoAndRedo(Checks):
    def changes(self, desk):
        return [lambda: desk.record({"a": 10, "b": 40}), lambda: desk.record({}), lambda: desk.tell_late("c", 0, 11),
                lambda: desk.allow(1), lambda: desk.tell_late("c", 0, 11), lambda: desk.allow(2), lambda: desk.allow(2),
                lambda: setattr(desk, "allowed", 2), lambda: desk.tell_late("a", 1, 12), lambda: desk.record({"b": 10})]

    def test_each_kind_of_change(self):
        for kind in KINDS:
            desk = desk_of(kind, [])
            seen = [look(desk)]
            for change in self.changes(desk):
                change()
                seen.append(look(desk))
            self.refuses(NothingToRedo, {}, desk.redo)
            for _ in range(2):
                for expected in seen[-2::-1]:
                    self.assertIsNone(desk.undo())
                    self.assertEqual(look(desk), expected)
                self.refuses(NothingToUndo, {}, desk.undo)
                self.assertEqual(look(desk), seen[0])
                for expected in seen[1:]:
                    self.assertIsNone(desk.redo())
                    self.assertEqual(look(desk), expected)
                self.refuses(NothingToRedo, {}, desk.redo)
                self.assertEqual(look(desk), seen[-1])

    def test_both_errors_on_a_new_desk(self):
        for kind in KINDS:
            desk = desk_of(kind, [])
            self.refuses(NothingToUndo, {}, desk.undo)
            self.refuses(NothingToRedo, {}, desk.redo)
            self.assertEqual([desk.now.ends(), len(desk), desk.allowed], [[(0, 99)], 0, 1])

    def test_the_same_number_is_a_change(self):
        for kind in KINDS:
            for assign in (lambda desk: desk.allow(1), lambda desk: setattr(desk, "allowed", 1)):
                desk = desk_of(kind, [{"a": 5}])
                assign(desk)
                desk.undo()
                self.assertEqual(len(desk), 1)
                desk.redo()
                self.refuses(NothingToRedo, {}, desk.redo)
                desk.undo()
                desk.undo()
                self.assertEqual(len(desk), 0)
                self.refuses(NothingToUndo, {}, desk.undo)

    def test_a_new_change_empties_what_can_be_redone(self):
        for kind in KINDS:
            for change in (lambda desk: desk.record({"b": 5}), lambda desk: desk.tell_late("b", 0, 5),
                           lambda desk: desk.allow(1),
                           lambda desk: setattr(desk, "allowed", 2)):
                desk = desk_of(kind, [{"a": 5}, {"a": 6}, {"a": 7}])
                desk.undo()
                desk.undo()
                change(desk)
                after = look(desk)
                self.refuses(NothingToRedo, {}, desk.redo)
                desk.undo()
                self.assertEqual(rows_of(desk), [{"a": 5}])
                desk.redo()
                self.assertEqual(look(desk), after)
                self.refuses(NothingToRedo, {}, desk.redo)
                desk.undo()
                desk.undo()
                self.refuses(NothingToUndo, {}, desk.undo)

    def test_a_refused_call_is_no_change(self):
        for kind in KINDS:
            desk = desk_of(kind, [{"a": 10, "b": 10}, {"a": 10, "b": 10}, {"c": 11}])
            desk.undo()
            before = look_deep(desk)
            wrong = [lambda: desk.record({"x": 1}), lambda: desk.record({"a": 90, "b": 70, "c": 50}),
                     lambda: desk.tell_late("x", 0, 1), lambda: desk.tell_late("a", 5, 1), lambda: desk.allow(4),
                     lambda: setattr(desk, "allowed", -1), lambda: desk.at(7), lambda: desk.smoothed(-1),
                     lambda: desk.story(99), lambda: desk.trial([{}, {"x": 1}]),
                     lambda: desk.trial([{"a": 90, "b": 70, "c": 50}])]
            for call in wrong:
                self.assertRaises(GaugeError, call)
                self.assertEqual(look_deep(desk), before)
            desk.redo()
            self.assertEqual(rows_of(desk)[2], {"c": 11})

    def test_looking_is_no_change(self):
        for kind in KINDS:
            desk = desk_of(kind, [{"a": 10}, {"b": 10}])
            desk.undo()
            before = look_deep(desk)
            for call in (lambda: desk.now, lambda: desk.at(0), lambda: desk.smoothed(0), lambda: desk.story(10),
                         lambda: list(desk.walk()), lambda: desk.doubt(3), desk.wrong_now, lambda: desk.allowed,
                         lambda: len(desk), lambda: desk.trial([{}])):
                call()
                self.assertEqual(look_deep(desk), before)

    def test_drawn_steps(self):
        source = random.Random(54)
        for turn in range(40):
            desk, model = drawn_pair(source, KINDS[turn % 2], "abcdef")
            past, future = [], []
            here = look(desk)
            for _ in range(30):
                kind = source.choice(["undo", "redo", "change", "change"])
                if kind == "change":
                    try:
                        self.drawn_change(source, desk, model.rack)()
                    except GaugeError:
                        self.assertEqual(look(desk), here)
                        continue
                    past, future = past + [here], []
                    here = look(desk)
                elif kind == "undo" and past:
                    desk.undo()
                    future.append(here)
                    here = past.pop()
                elif kind == "redo" and future:
                    desk.redo()
                    past.append(here)
                    here = future.pop()
                else:
                    self.refuses(NothingToUndo if kind == "undo" else NothingToRedo, {}, getattr(desk, kind))
                self.assertEqual(look(desk), here)

    def drawn_change(self, source, desk, rack):
        readings, name = drawn_readings(source, rack), source.choice(rack.names())
        tick, reading = source.randint(0, len(desk)), source.randint(-3, 9)
        liars = source.randint(0, len(rack.faults()))
        return source.choice([lambda: desk.record(readings), lambda: desk.tell_late(name, tick, reading),
                              lambda: desk.allow(liars)])

    def test_full_size(self):
        far = 10 ** 60 - 1
        for kind in KINDS:
            for liars in (0, 4, 9):
                desk = kind(full_rack(), Stretch(-far, far), liars=liars, pace=7)
                for tick in range(70):
                    desk.record({name: tick * far // 100 for name in LETTERS})
                last = desk.now
                for tick in (0, 30, 69):
                    desk.tell_late("e", tick, -far // 9 * tick // 70)
                desk.allow(5)
                for _ in range(74):
                    desk.undo()
                self.refuses(NothingToUndo, {}, desk.undo)
                for _ in range(70):
                    desk.redo()
                self.assertEqual(desk.now, last)
                for _ in range(4):
                    desk.redo()
                self.refuses(NothingToRedo, {}, desk.redo)
                self.assertEqual([len(desk), desk.allowed], [70, 5])


class Trials(Checks):
    def test_values_of_now(self):
        for kind in KINDS:
            desk = desk_of(kind, [{"a": 10}], liars=0)
            before = look_deep(desk)
            rows = [{"b": 11}, {}, {"a": 11, "c": 12}]
            found = desk.trial(rows)
            self.assertIsInstance(found, list)
            self.assertEqual([levels.ends() for levels in found], [[(10, 12)], [(9, 13)], [(11, 12)]])
            self.assertEqual(look_deep(desk), before)
            self.assertEqual([desk.record(readings) for readings in rows], found)

    def test_no_rows(self):
        for kind in KINDS:
            desk = desk_of(kind, [{"a": 10}])
            before = look_deep(desk)
            self.assertEqual(desk.trial([]), [])
            self.assertEqual(look_deep(desk), before)

    def test_refused_rows(self):
        good, unknown, untrue = {"a": 10}, {"z": 1, "x": 1}, {"a": 90, "b": 70, "c": 50}
        for kind in KINDS:
            for made in ([], [good], [good, good]):
                desk = desk_of(kind, made + [good, good])
                desk.allow(2)
                desk.allow(1)
                desk.undo()
                desk.undo()
                desk.undo()
                before = look_deep(desk)
                at = len(made) + 1
                rows = (([unknown, good], UnknownGauge, {"name": "x"}), ([untrue, good], NoTruth, {"tick": at}),
                        ([good, unknown, untrue], UnknownGauge, {"name": "x"}),
                        ([good, untrue, unknown], NoTruth, {"tick": at + 1}),
                        ([good, good, unknown], UnknownGauge, {"name": "x"}),
                        ([good, {}, untrue], NoTruth, {"tick": at + 2}))
                for some, kind_of_error, told in rows:
                    self.refuses(kind_of_error, told, desk.trial, some)
                    self.assertEqual(look_deep(desk), before)
                desk.redo()
                desk.redo()
                self.assertEqual(desk.allowed, 2)
                desk.redo()
                self.assertEqual([desk.allowed, len(desk)], [1, at + 1])

    def test_drawn_trials(self):
        source = random.Random(541)
        for turn in range(60):
            desk, model = drawn_pair(source, KINDS[turn % 2], "abcde")
            desk.record({})
            before, rows, found = look_deep(desk), [drawn_readings(source, model.rack) for _ in range(4)], []
            other = model.kind(model.rack, model.start, liars=model.liars, pace=model.pace)
            other.record({})
            try:
                for readings in rows:
                    found.append(other.record(readings))
            except NoTruth as error:
                self.refuses(NoTruth, {"tick": error.tick}, desk.trial, rows)
            else:
                self.assertEqual(desk.trial(rows), found)
            self.assertEqual(look_deep(desk), before)

    def test_full_size(self):
        far = 10 ** 60 - 1
        for kind in KINDS:
            desk = kind(full_rack(), Stretch(-far, far), liars=4, pace=7)
            rows = [{name: tick * far // 100 for name in LETTERS} for tick in range(70)]
            self.assertEqual(len(desk.trial(rows)), 70)
            self.assertEqual(len(desk), 0)
            self.refuses(NotPossible, {"level": 2 * far}, desk.story, 2 * far)
            self.refuses(NothingToUndo, {}, desk.undo)


if __name__ == "__main__":
    unittest.main()
