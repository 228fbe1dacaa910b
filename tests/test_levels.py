"""Points 9 to 12."""

import itertools
import unittest

from gaugemiss.errors import BadStretch, NoLevel
from gaugemiss.stretch import Levels, Stretch
from tests.checks import BIG, Checks, inside, stretches

SPAN = range(-3, 4)


def made_of(numbers):
    """The set of these levels, from stretches of one level each."""
    return Levels(*[Stretch(number, number) for number in numbers])


def numbers_of(levels):
    return {number for piece in levels for number in inside(piece)}


def ends_of(numbers):
    """The pieces of a set of numbers, found number by number."""
    lows = [number for number in sorted(numbers) if number - 1 not in numbers]
    highs = [number for number in sorted(numbers) if number + 1 not in numbers]
    return list(zip(lows, highs))


SUBSETS = [frozenset(some) for many in range(len(SPAN) + 1) for some in itertools.combinations(SPAN, many)]
PAIRS = [(Levels(*stretches(*ends_of(one))), one) for one in SUBSETS]


class Creating(Checks):
    def test_pieces_of_one_to_three_stretches_in_any_order(self):
        small = [Stretch(low, high) for low in range(-2, 4) for high in range(low, min(low + 3, 4))]
        for many in (1, 2, 3):
            for some in itertools.product(small, repeat=many):
                numbers = set().union(*[inside(each) for each in some])
                self.assertEqual(Levels(*some).ends(), ends_of(numbers), some)

    def test_overlapping_touching_repeated_and_apart(self):
        self.assertEqual(Levels(Stretch(5, 8), Stretch(1, 2), Stretch(3, 3)).ends(), [(1, 3), (5, 8)])
        self.assertEqual(Levels(*stretches((1, 9), (3, 4), (9, 12))).ends(), [(1, 12)])
        self.assertEqual(Levels(*stretches((1, 2), (1, 2), (1, 2))).ends(), [(1, 2)])
        self.assertEqual(Levels(*stretches((0, 1), (3, 4))).ends(), [(0, 1), (3, 4)])
        self.assertEqual(Levels(*stretches((0, 1), (2, 4))).ends(), [(0, 4)])
        self.assertEqual(Levels(*stretches((-BIG, -5), (BIG, BIG), (7, BIG - 1))).ends(), [(-BIG, -5), (7, BIG)])

    def test_many_long_stretches(self):
        some = [Stretch(7 * k * BIG, (7 * k + 3) * BIG) for k in range(80)]
        self.assertEqual(len(Levels(*some[::-1])), 80)
        self.assertEqual(Levels(*some, Stretch(-BIG, 600 * BIG)).ends(), [(-BIG, 600 * BIG)])

    def test_the_empty_set(self):
        for empty in (Levels(), Levels.none(), Levels.of([]), made_of([1]) - made_of([1])):
            self.assertIsInstance(empty, Levels)
            self.assertEqual(empty.ends(), [])
            self.assertEqual((len(empty), empty.size, bool(empty), list(empty)), (0, 0, False, []))
            self.assertEqual((str(empty), repr(empty)), ("none", "Levels()"))
            self.assertNotIn(0, empty)
            self.assertTrue(empty == Levels())
            self.assertIs(empty != Levels(), False)

    def test_of_a_list(self):
        some = stretches((4, 6), (1, 2), (6, 9))
        self.assertEqual(Levels.of(some).ends(), [(1, 2), (4, 9)])
        self.assertEqual(Levels.of(stretches=some), Levels(*some))
        self.assertIsInstance(Levels.of(some), Levels)


class Reading(Checks):
    def test_every_small_set(self):
        for levels, numbers in PAIRS:
            pieces = ends_of(numbers)
            self.assertEqual(levels.ends(), pieces)
            self.assertIsInstance(levels.ends(), list)
            self.assertEqual((len(levels), levels.size), (len(pieces), len(numbers)))
            self.assertIs(bool(levels), bool(numbers))
            self.assertEqual([levels[k] for k in range(len(levels))], [Stretch(*each) for each in pieces])
            self.assertEqual(list(levels), [Stretch(*each) for each in pieces])
            for level in range(-5, 6):
                self.assertIs(level in levels, level in numbers)

    def test_the_pieces_are_stretches_and_can_be_gone_through_again(self):
        levels = Levels(*stretches((5, 6), (1, 2)))
        for _ in range(2):
            self.assertEqual([(piece.low, piece.high) for piece in levels], [(1, 2), (5, 6)])
        self.assertIsInstance(levels[0], Stretch)
        self.assertEqual([levels[0], levels[1]], stretches((1, 2), (5, 6)))

    def test_long_sets(self):
        levels = Levels(*stretches((-BIG, -1), (1, BIG)))
        self.assertEqual((levels.size, len(levels)), (2 * BIG, 2))
        self.assertIn(BIG, levels)
        self.assertNotIn(0, levels)
        self.assertNotIn(BIG + 1, levels)

    def test_equality(self):
        for (one, first), (other, second) in itertools.product(PAIRS, PAIRS):
            self.assertIs(one == other, first == second)
            self.assertIs(one != other, first != second)
        self.assertEqual(Levels(*stretches((1, 2), (3, 4))), Levels(Stretch(1, 4)))

    def test_a_set_equals_no_other_kind_of_value(self):
        levels = Levels(Stretch(1, 5))
        for other in (Stretch(1, 5), [Stretch(1, 5)], [(1, 5)], "1..5", {1, 2, 3, 4, 5}, None, 1):
            self.assertIs(levels == other, False)
            self.assertIs(other == levels, False)
            self.assertIs(levels != other, True)
        for other in ([], (), None, 0, "none", False):
            self.assertIs(Levels() == other, False)

    def test_repr_and_str(self):
        levels = Levels(Stretch(5, 5), Stretch(1, 2))
        self.assertEqual(repr(levels), "Levels(Stretch(1, 2), Stretch(5, 5))")
        self.assertEqual(str(levels), "1..2, 5..5")
        self.assertEqual(repr(Levels(Stretch(-3, -1))), "Levels(Stretch(-3, -1))")
        self.assertEqual(str(Levels(Stretch(-3, -1))), "-3..-1")
        self.assertEqual(str(Levels(*stretches((-9, -8), (0, 0), (4, 7)))), "-9..-8, 0..0, 4..7")


class Combining(Checks):
    def test_meeting_joining_and_leaving_out(self):
        for (one, first), (other, second) in itertools.product(PAIRS, PAIRS):
            self.assertEqual((one & other).ends(), ends_of(first & second))
            self.assertEqual((one | other).ends(), ends_of(first | second))
            self.assertEqual((one - other).ends(), ends_of(first - second), (first, second))

    def test_long_sets(self):
        one, other = Levels(Stretch(-BIG, BIG)), Levels(*stretches((-5, -3), (3, 5)))
        self.assertEqual((one - other).ends(), [(-BIG, -6), (-2, 2), (6, BIG)])
        self.assertEqual((other - one).ends(), [])
        self.assertEqual((one & other).ends(), [(-5, -3), (3, 5)])
        self.assertEqual((one | other).ends(), [(-BIG, BIG)])

    def test_moving(self):
        levels = Levels(*stretches((-3, -1), (4, 4)))
        self.assertEqual((levels + 5).ends(), [(2, 4), (9, 9)])
        self.assertEqual((levels + -5).ends(), [(-8, -6), (-1, -1)])
        self.assertEqual((levels + 0), levels)
        self.assertEqual((Levels() + 5).ends(), [])
        self.assertEqual((levels + BIG).ends(), [(BIG - 3, BIG - 1), (BIG + 4, BIG + 4)])

    def test_growing(self):
        for levels, numbers in PAIRS:
            for below, above in itertools.product(range(-3, 4), range(-3, 4)):
                if -below <= above:
                    sums = {number + by for number in numbers for by in range(-below, above + 1)}
                    self.assertEqual(levels.grown(below, above).ends(), ends_of(sums), (numbers, below, above))
        self.assertEqual(Levels(Stretch(0, 1)).grown(below=BIG, above=2).ends(), [(-BIG, 3)])

    def test_growing_in_the_wrong_order(self):
        for levels in (Levels(), Levels(Stretch(-50, 50)), made_of([1, 3, 9])):
            for below, above in ((0, -1), (-1, 0), (-4, 3), (1, -2), (-BIG, BIG - 1)):
                self.refuses(BadStretch, {"low": -below, "high": above}, levels.grown, below, above)

    def test_the_operands_stay(self):
        one, other = made_of([1, 2, 6]), made_of([2, 3])
        for made in (one & other, one | other, one - other, one + 0, one.grown(0, 0), Levels(*one), Levels.of([one[0]])):
            for piece in made:
                piece.low = -90
        self.assertEqual([one.ends(), other.ends()], [[(1, 2), (6, 6)], [(2, 3)]])


class LeastAndGreatest(Checks):
    def test_every_small_set(self):
        for levels, numbers in PAIRS:
            if numbers:
                least, greatest = min(numbers), max(numbers)
                self.assertEqual((levels.lowest, levels.highest), (least, greatest))
                self.assertEqual(levels.hull(), Stretch(least, greatest))
                for level in range(-6, 7):
                    nearest = min(numbers, key=lambda x: (abs(x - level), x))
                    self.assertEqual(levels.nearest(level), nearest, (numbers, level))

    def test_the_lower_of_two_equally_near_levels(self):
        levels = Levels(*stretches((-9, -4), (4, 9), (20, 20)))
        self.assertEqual(levels.nearest(0), -4)
        self.assertEqual(levels.nearest(1), 4)
        self.assertEqual(levels.nearest(-1), -4)
        self.assertEqual(levels.nearest(14), 9)
        self.assertEqual(levels.nearest(15), 20)
        self.assertEqual(levels.nearest(level=-BIG), -9)
        self.assertEqual(levels.nearest(BIG), 20)
        self.assertEqual(Levels(*stretches((-BIG, -BIG), (BIG, BIG))).nearest(0), -BIG)

    def test_the_empty_set_has_none(self):
        empty = Levels.none()
        self.refuses(NoLevel, {}, lambda: empty.lowest)
        self.refuses(NoLevel, {}, lambda: empty.highest)
        self.refuses(NoLevel, {}, empty.hull)
        self.refuses(NoLevel, {}, empty.nearest, 0)


if __name__ == "__main__":
    unittest.main()
