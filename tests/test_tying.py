"""Points 58 to 60."""

import itertools
import random
import unittest

from gaugemiss.errors import BadLiars, NoLevel, NotPossible
from gaugemiss.stretch import Levels, Stretch
from gaugemiss.tying import agreed, joint_clashes, partner, shared_budget, tied
from tests.checks import BIG, Checks, inside, stretches
from tests.following import full_ends

GAPS = [Stretch(low, high) for low in (-5, -2, 0, 1, 4) for high in (-5, -1, 0, 2, 6) if low <= high]


def levels_of(*ends):
    return Levels(*stretches(*ends))


def numbers_of(levels):
    return [number for piece in levels for number in range(piece.low, piece.high + 1)]


def drawn_stretches(source, many):
    lows = [source.randint(-6, 6) for _ in range(many)]
    return [Stretch(low, low + source.choice([0, 1, 2, 5])) for low in lows]


def missing(entries, level):
    """The number of entries that do not contain a level."""
    return len([each for each in entries if not each.low <= level <= each.high])


class Tied(Checks):
    def test_the_example(self):
        firsts, seconds = tied(levels_of((0, 10)), levels_of((20, 30)), Stretch(-15, -12))
        self.assertEqual([firsts.ends(), seconds.ends()], [[(5, 10)], [(20, 25)]])

    def test_it_is_a_pair_of_levels(self):
        found = tied(levels_of((0, 1)), levels_of((0, 1)), Stretch(0, 0))
        self.assertIsInstance(found, tuple)
        self.assertEqual([type(each) for each in found], [Levels, Levels])

    def test_hand_worked(self):
        first, second = levels_of((0, 2), (10, 12)), levels_of((4, 5), (20, 20))
        rows = ((Stretch(0, 0), [], []), (Stretch(-4, -4), [(0, 1)], [(4, 5)]), (Stretch(6, 6), [(10, 11)], [(4, 5)]),
                (Stretch(-8, 5), [(0, 2), (10, 10), (12, 12)], [(4, 5), (20, 20)]),
                (Stretch(8, 9), [(12, 12)], [(4, 4)]),
                (Stretch(-18, -18), [(2, 2)], [(20, 20)]), (Stretch(-BIG, BIG), first.ends(), second.ends()))
        for gap, firsts, seconds in rows:
            found = tied(first, second, gap)
            self.assertEqual([found[0].ends(), found[1].ends()], [firsts, seconds], str(gap))

    def test_empty_sets(self):
        some = levels_of((0, 4))
        for gap in GAPS:
            for first, second in ((some, Levels()), (Levels(), some), (Levels(), Levels())):
                self.assertEqual([each.ends() for each in tied(first, second, gap)], [[], []])

    def test_drawn_sets(self):
        source = random.Random(58)
        for _ in range(120):
            first, second = [Levels.of(drawn_stretches(source, source.randint(0, 4))) for _ in range(2)]
            for gap in source.sample(GAPS, 5):
                pairs = [(x, y) for x in numbers_of(first) for y in numbers_of(second) if gap.low <= x - y <= gap.high]
                found = tied(first, second, gap)
                self.assertEqual([each.ends() for each in found],
                                 [full_ends({x for x, _ in pairs}), full_ends({y for _, y in pairs})])
                for level in range(-8, 15):
                    partners = [y for y in numbers_of(second) if gap.low <= level - y <= gap.high]
                    if partners:
                        self.assertEqual(partner(level, second, gap), min(partners))
                    else:
                        self.refuses(NotPossible, {"level": level}, partner, level, second, gap)

    def test_partners_by_hand(self):
        second = levels_of((4, 5), (20, 22))
        rows = ((5, 0, 0, 5), (10, 5, 6, 4), (10, 0, 5, 5), (10, -12, 0, 20), (10, -12, -11, 21), (10, -12, 99, 4))
        for level, low, high, lowest in rows:
            self.assertEqual(partner(level, second, Stretch(low, high)), lowest)
        for level, low, high in ((6, 0, 0), (10, 0, 4), (10, 7, 99), (3, 0, 0), (23, 0, 0), (10, -9, 4), (BIG, 0, 1)):
            self.refuses(NotPossible, {"level": level}, partner, level, second, Stretch(low, high))
        self.refuses(NotPossible, {"level": 3}, partner, 3, Levels(), Stretch(-BIG, BIG))

    def test_full_size(self):
        far = 10 ** 60 - 1
        first = Levels(*[Stretch(k * far, k * far + 9) for k in range(-35, 35)])
        second = Levels(*[Stretch(k * far + 5, k * far + 8) for k in range(-35, 35)])
        firsts, seconds = tied(first, second, Stretch(far, far))
        self.assertEqual([len(firsts), len(seconds)], [69, 69])
        self.assertEqual([firsts[0], seconds[-1]], [Stretch(-34 * far + 5, -34 * far + 8),
                                                    Stretch(33 * far + 5, 33 * far + 8)])
        self.assertEqual(partner(far, second, Stretch(-far, far)), 5)


class SharedBudget(Checks):
    def ends(self, first, second, gap, liars):
        found = shared_budget(first, second, gap, liars)
        self.assertIsInstance(found, tuple)
        self.assertEqual([type(each) for each in found], [Levels, Levels])
        return [each.ends() for each in found]

    def test_hand_worked(self):
        first, second = stretches((0, 2), (10, 12)), stretches((0, 1), (30, 31))
        self.assertEqual(self.ends(first, second, Stretch(0, 0), 0), [[], []])
        self.assertEqual(self.ends(first, second, Stretch(-99, 99), 0), [[], []])
        self.assertEqual(self.ends(first, second, Stretch(-99, 99), 1), [[], []])
        first, second = stretches((0, 2), (1, 12)), stretches((0, 1), (1, 9))
        self.assertEqual(self.ends(first, second, Stretch(0, 0), 0), [[(1, 1)], [(1, 1)]])
        self.assertEqual(self.ends(first, second, Stretch(0, 0), 1), [[(1, 2)], [(1, 2)]])

    def test_the_liars_are_shared(self):
        # One liar is enough for each list alone, but not for both.
        first, second = stretches((0, 1), (0, 1), (8, 9)), stretches((8, 9), (8, 9), (0, 1))
        self.assertEqual(self.ends(first, second, Stretch(0, 0), 1), [[], []])
        self.assertEqual(self.ends(first, second, Stretch(-8, -8), 1), [[], []])
        self.assertEqual(self.ends(first, second, Stretch(-8, -8), 2), [[(0, 1)], [(8, 9)]])
        first, second = stretches((0, 1), (0, 1), (5, 6)), stretches((0, 9), (0, 9), (3, 9))
        self.assertEqual(self.ends(first, second, Stretch(0, 0), 1), [[], []])
        self.assertEqual(self.ends(first, second, Stretch(0, 0), 2), [[(0, 1), (5, 6)], [(0, 1), (5, 6)]])

    def slow(self, first, second, gap, liars):
        levels = range(-16, 26)
        pairs = [(x, y) for x in levels for y in levels if gap.low <= x - y <= gap.high
                 and missing(first, x) + missing(second, y) <= liars]
        return [full_ends({x for x, _ in pairs}), full_ends({y for _, y in pairs})]

    def test_drawn_lists(self):
        source = random.Random(59)
        for _ in range(60):
            first, second = [drawn_stretches(source, source.randint(1, 4)) for _ in range(2)]
            for liars in range(min(len(first), len(second))):
                gap = source.choice(GAPS)
                self.assertEqual(self.ends(first, second, gap, liars), self.slow(first, second, gap, liars))

    def test_bad_liars(self):
        one, two, three = stretches((0, 9)), stretches((0, 9), (0, 9)), stretches((0, 9), (0, 9), (0, 9))
        for first, second, most in ((one, three, 0), (three, one, 0), (two, three, 1), (three, two, 1),
                                    (three, three, 2)):
            for liars in (-1, -BIG, most + 1, most + 2, BIG):
                self.refuses(BadLiars, {"number": liars}, shared_budget, first, second, Stretch(0, 0), liars)
            self.assertEqual(self.ends(first, second, Stretch(0, 0), most), [[(0, 9)], [(0, 9)]])
        for first, second in (([], one), (one, []), ([], [])):
            for liars in (-1, 0, 1):
                self.refuses(BadLiars, {"number": liars}, shared_budget, first, second, Stretch(0, 0), liars)

    def test_full_size(self):
        far = 10 ** 60 - 1
        first = [Stretch(at * far, (at + 40) * far) for at in range(70)]
        second = [Stretch(-at * far, (40 - at) * far) for at in range(70)]
        found = [shared_budget(first, second, Stretch(-99 * far, 99 * far), liars) for liars in (0, 29, 57, 58, 69)]
        self.assertEqual([[bool(levels) for levels in pair] for pair in found], [[False] * 2] * 3 + [[True] * 2] * 2)
        found = shared_budget(first, first, Stretch(0, 0), 69)
        self.assertTrue(found[0] == found[1] and found[0])


class JointClashes(Checks):
    def test_the_example(self):
        found = joint_clashes(stretches((0, 2), (5, 6)), stretches((0, 1)), Stretch(0, 3))
        self.assertEqual(found, [(("first", 0), ("first", 1)), (("first", 1), ("second", 0))])

    def test_the_order(self):
        first, second = stretches((0, 0), (9, 9), (0, 9), (20, 20)), stretches((40, 40), (41, 41), (0, 41))
        self.assertEqual(joint_clashes(first, second, Stretch(0, 0)), [
            (("first", 0), ("first", 1)), (("first", 0), ("first", 3)), (("first", 1), ("first", 3)),
            (("first", 2), ("first", 3)), (("second", 0), ("second", 1)), (("first", 0), ("second", 0)),
            (("first", 0), ("second", 1)), (("first", 1), ("second", 0)), (("first", 1), ("second", 1)),
            (("first", 2), ("second", 0)), (("first", 2), ("second", 1)), (("first", 3), ("second", 0)),
            (("first", 3), ("second", 1))])

    def test_the_edges_of_the_gap(self):
        for low, high, clash in ((7, 8, False), (8, 9, True), (-3, -2, True), (-2, -1, False), (-1, 0, False),
                                 (0, 0, False),
                                 (3, 3, False), (7, 7, False), (8, 8, True)):
            found = joint_clashes(stretches((4, 9)), stretches((2, 5)), Stretch(low, high))
            self.assertEqual(found, [(("first", 0), ("second", 0))] if clash else [])

    def test_empty_lists(self):
        some = stretches((0, 1), (5, 6))
        for gap in GAPS:
            self.assertEqual(joint_clashes([], [], gap), [])
            self.assertEqual(joint_clashes(some, [], gap), [(("first", 0), ("first", 1))])
            self.assertEqual(joint_clashes([], some, gap), [(("second", 0), ("second", 1))])

    def test_drawn_lists(self):
        source = random.Random(60)
        for _ in range(100):
            first, second = [drawn_stretches(source, source.randint(0, 4)) for _ in range(2)]
            gap = source.choice(GAPS)
            rows = []
            for name, some in (("first", first), ("second", second)):
                rows += [((name, i), (name, j)) for i, j in itertools.combinations(range(len(some)), 2)
                         if not inside(some[i]) & inside(some[j])]
            rows += [(("first", i), ("second", j)) for i, one in enumerate(first) for j, other in enumerate(second)
                     if not any(gap.low <= x - y <= gap.high for x in inside(one) for y in inside(other))]
            self.assertEqual(joint_clashes(first, second, gap), rows)
            if first and second:
                self.check_agreed(first, second, gap, bool(rows))

    def check_agreed(self, first, second, gap, clashing):
        levels = range(-7, 13)
        pairs = sorted((x, y) for x in levels for y in levels if gap.low <= x - y <= gap.high
                       and missing(first, x) == 0 and missing(second, y) == 0)
        self.assertIs(clashing, not pairs)
        if pairs:
            self.assertEqual(agreed(first, second, gap), pairs[0])
        else:
            self.refuses(NoLevel, {}, agreed, first, second, gap)

    def test_full_size(self):
        far = 10 ** 60 - 1
        first, second = [Stretch(at * far, at * far) for at in range(70)], [Stretch(-at * far, 0) for at in range(70)]
        found = joint_clashes(first, second, Stretch(-far, far))
        self.assertEqual(len(found), 70 * 69 // 2 + 68 * 70)


class Agreed(Checks):
    def test_hand_worked(self):
        rows = (([(0, 9)], [(0, 9)], (0, 0), (0, 0)), ([(0, 9), (3, 12)], [(-2, 7)], (0, 0), (3, 3)),
                ([(0, 9), (3, 12)], [(-2, 7), (-5, 9)], (4, 8), (3, -2)), ([(5, 9)], [(0, 1)], (-9, 5), (5, 0)),
                ([(5, 9)], [(0, 1)], (-9, 4), (5, 1)), ([(5, 9)], [(0, 1)], (7, 7), (7, 0)),
                ([(-5, 9)], [(20, 30)], (-12, -12), (8, 20)),
                ([(1, 5), (1, 5)], [(1, 5)], (-4, -4), (1, 5)), ([(-BIG, BIG)], [(0, BIG)], (5, 6), (5, 0)))
        for first, second, gap, pair in rows:
            found = agreed(stretches(*first), stretches(*second), Stretch(*gap))
            self.assertEqual(found, pair)
            self.assertIsInstance(found, tuple)

    def test_no_pair(self):
        rows = (([], [(0, 1)], (-BIG, BIG)), ([(0, 1)], [], (-BIG, BIG)), ([], [], (0, 0)),
                ([(0, 1), (3, 4)], [(0, 9)], (-9, 9)),
                ([(0, 9)], [(0, 1), (3, 4)], (-9, 9)), ([(0, 1)], [(3, 4)], (0, 0)), ([(0, 1)], [(3, 4)], (-1, 5)),
                ([(0, 1)], [(3, 4)], (-9, -5)))
        for first, second, gap in rows:
            self.refuses(NoLevel, {}, agreed, stretches(*first), stretches(*second), Stretch(*gap))

    def test_full_size(self):
        far = 10 ** 60 - 1
        first = [Stretch(at - far, far) for at in range(70)]
        second = [Stretch(-far - at, far - at) for at in range(70)]
        self.assertEqual(agreed(first, second, Stretch(3, far)), (69 - far, -far))


class Arguments(Checks):
    def test_what_is_handed_in_stays_and_what_is_returned_is_new(self):
        ends = [(5, 9), (0, 6), (30, 31), (0, 6)], [(4, 5), (0, 3)]
        first, second, gap = stretches(*ends[0]), stretches(*ends[1]), Stretch(-1, 2)
        one, other = Levels.of(first), Levels.of(second)
        for _ in range(2):
            found = [tied(one, other, gap), shared_budget(first, second, gap, 1)]
            self.assertEqual(partner(5, other, gap), 3)
            joint_clashes(first, second, gap).clear()
            self.assertTrue(joint_clashes(first, second, gap))
            self.refuses(NoLevel, {}, agreed, first, second, gap)
            for levels in found[0] + found[1]:
                levels.ends().clear()
                for piece in levels:
                    piece.low -= 50
            self.assertEqual([[(each.low, each.high) for each in some] for some in (first, second)], list(ends))
            self.assertEqual([one.ends(), other.ends(), gap.low, gap.high], [[(0, 9), (30, 31)], [(0, 5)], -1, 2])


if __name__ == "__main__":
    unittest.main()
