"""Points 2 and 6 to 8."""

import unittest

from gaugemiss.errors import Apart, BadStretch, NoLevel
from gaugemiss.stretch import Levels, Stretch
from tests.checks import BIG, Checks, inside

SMALL = [Stretch(low, high) for low in range(-4, 5) for high in range(low, 5)]


def ends(stretch):
    return (stretch.low, stretch.high)


class Creating(Checks):
    def test_attributes_are_the_ends(self):
        for low, high in ((-9, -4), (-2, 3), (0, 0), (5, 5), (7, 90), (-BIG, BIG), (BIG, BIG + 1)):
            self.assertEqual(vars(Stretch(low, high)), {"low": low, "high": high})
            self.assertEqual(vars(Stretch(low=low, high=high)), {"low": low, "high": high})

    def test_ends_in_the_wrong_order(self):
        for low, high in ((3, 2), (1, 0), (0, -1), (-1, -2), (9, -9), (BIG + 1, BIG), (-BIG, -BIG - 1)):
            self.refuses(BadStretch, {"low": low, "high": high}, Stretch, low, high)

    def test_around(self):
        self.assertEqual(ends(Stretch.around(10, 3)), (7, 13))
        self.assertEqual(ends(Stretch.around(-10, 3)), (-13, -7))
        self.assertEqual(ends(Stretch.around(1, 4)), (-3, 5))
        self.assertEqual(ends(Stretch.around(level=6, radius=0)), (6, 6))
        self.assertEqual(ends(Stretch.around(BIG, BIG)), (0, 2 * BIG))
        self.assertEqual(ends(Stretch(1, 2).around(0, 1)), (-1, 1))

    def test_around_with_a_negative_radius(self):
        self.refuses(BadStretch, {"low": 11, "high": 9}, Stretch.around, 10, -1)
        self.refuses(BadStretch, {"low": -2, "high": -8}, Stretch.around, -5, -3)
        self.refuses(BadStretch, {"low": BIG, "high": -BIG}, Stretch.around, 0, -BIG)


class Reading(Checks):
    def test_width(self):
        for low, high, width in ((0, 0, 0), (2, 7, 5), (-7, -2, 5), (-3, 4, 7), (-BIG, BIG, 2 * BIG)):
            self.assertEqual(Stretch(low, high).width, width)

    def test_middle_is_rounded_down(self):
        rows = ((0, 0, 0), (0, 1, 0), (1, 2, 1), (1, 3, 2), (-1, 0, -1), (-2, -1, -2), (-3, 0, -2), (-5, 2, -2),
                (-4, 3, -1), (-3, -1, -2), (BIG, BIG + 1, BIG), (-BIG - 1, -BIG, -BIG - 1))
        for low, high, middle in rows:
            self.assertEqual(Stretch(low, high).middle, middle, (low, high))

    def test_membership(self):
        for stretch in SMALL:
            for level in range(-6, 7):
                self.assertIs(level in stretch, stretch.low <= level <= stretch.high)
        self.assertIn(BIG, Stretch(BIG, BIG))
        self.assertNotIn(BIG + 1, Stretch(-BIG, BIG))

    def test_equality(self):
        for one in SMALL:
            for other in SMALL:
                same = ends(one) == ends(other)
                self.assertIs(one == other, same)
                self.assertIs(one != other, not same)
        self.assertEqual(Stretch(1, 5), Stretch(1, 5))

    def test_a_stretch_equals_no_other_kind_of_value(self):
        for other in ((1, 5), [1, 5], "1..5", "Stretch(1, 5)", 1, None, Levels(Stretch(1, 5)), {"low": 1, "high": 5}):
            self.assertIs(Stretch(1, 5) == other, False)
            self.assertIs(other == Stretch(1, 5), False)
            self.assertIs(Stretch(1, 5) != other, True)
        self.assertIs(Stretch(3, 3) == 3, False)

    def test_repr_and_str(self):
        self.assertEqual(repr(Stretch(-1, 5)), "Stretch(-1, 5)")
        self.assertEqual(str(Stretch(-1, 5)), "-1..5")
        self.assertEqual(f"{Stretch(0, 0)} {Stretch(-7, -7)!r}", "0..0 Stretch(-7, -7)")
        self.assertEqual(str(Stretch(-BIG, BIG)), f"-{BIG}..{BIG}")

    def test_nearest(self):
        for stretch in SMALL:
            for level in range(-8, 9):
                self.assertEqual(stretch.nearest(level), min(inside(stretch), key=lambda x: abs(x - level)))
        self.assertEqual(Stretch(-BIG, BIG).nearest(BIG + 7), BIG)
        self.assertEqual(Stretch(-BIG, BIG).nearest(-BIG - 7), -BIG)
        self.assertEqual(Stretch(-BIG, BIG).nearest(level=5), 5)

    def test_farthest(self):
        for stretch in SMALL:
            for level in range(-8, 9):
                self.assertEqual(stretch.farthest(level), max(abs(x - level) for x in inside(stretch)))
        self.assertEqual(Stretch(-BIG, BIG).farthest(level=1), BIG + 1)


class Moving(Checks):
    def test_plus_and_minus_move_both_ends(self):
        self.assertEqual(ends(Stretch(2, 5) + 3), (5, 8))
        self.assertEqual(ends(Stretch(2, 5) + -3), (-1, 2))
        self.assertEqual(ends(Stretch(2, 5) - 3), (-1, 2))
        self.assertEqual(ends(Stretch(-2, 5) - -4), (2, 9))
        self.assertEqual(ends(Stretch(-2, 5) + 0), (-2, 5))
        self.assertEqual(ends(Stretch(-2, 5) - BIG), (-2 - BIG, 5 - BIG))

    def test_negating(self):
        self.assertEqual(ends(-Stretch(2, 5)), (-5, -2))
        self.assertEqual(ends(-Stretch(-2, 5)), (-5, 2))
        self.assertEqual(ends(-Stretch(0, 0)), (0, 0))
        self.assertEqual(ends(-Stretch(-BIG, 1)), (-1, BIG))

    def test_meeting(self):
        for one in SMALL:
            for other in SMALL:
                common = inside(one) & inside(other)
                if common:
                    self.assertEqual(ends(one & other), (min(common), max(common)))
                else:
                    told = {"first": ends(one), "second": ends(other)}
                    self.refuses(Apart, told, lambda: one & other)

    def test_touching_stretches_are_apart_and_common_ends_are_not(self):
        with self.assertRaises(NoLevel):
            Stretch(1, 3) & Stretch(4, 6)
        self.refuses(Apart, {"first": (4, 6), "second": (1, 3)}, lambda: Stretch(4, 6) & Stretch(1, 3))
        self.assertEqual(ends(Stretch(1, 3) & Stretch(3, 6)), (3, 3))
        self.assertEqual(ends(Stretch(-BIG, BIG) & Stretch(1, 2)), (1, 2))

    def test_joining_gives_the_hull(self):
        for one in SMALL:
            for other in SMALL:
                both = inside(one) | inside(other)
                self.assertEqual(ends(one | other), (min(both), max(both)))

    def test_growing(self):
        self.assertEqual(ends(Stretch(2, 5).grown(1, 3)), (1, 8))
        self.assertEqual(ends(Stretch(2, 5).grown(below=0, above=0)), (2, 5))
        self.assertEqual(ends(Stretch(2, 5).grown(-1, 1)), (3, 6))
        self.assertEqual(ends(Stretch(2, 5).grown(4, -4)), (-2, 1))
        self.assertEqual(ends(Stretch(2, 2).grown(-7, 9)), (9, 11))
        self.assertEqual(ends(Stretch(2, 2).grown(BIG, -BIG)), (2 - BIG, 2 - BIG))

    def test_growing_in_the_wrong_order(self):
        for below, above in ((0, -1), (-1, 0), (-2, 1), (2, -3), (-1, -1), (-BIG, BIG - 1)):
            told = {"low": -below, "high": above}
            self.refuses(BadStretch, told, Stretch(-100, 100).grown, below, above)
            self.refuses(BadStretch, told, Stretch(3, 3).grown, below, above)

    def test_the_operands_stay(self):
        one, other = Stretch(1, 6), Stretch(4, 9)
        both = [one & other, one | other, one + 1, one - 1, -one, one.grown(1, 1)]
        for made in both:
            made.low = -50
        self.assertEqual([ends(one), ends(other)], [(1, 6), (4, 9)])


if __name__ == "__main__":
    unittest.main()
