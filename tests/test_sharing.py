"""Points 13 to 16."""

import itertools
import unittest

from gaugemiss.errors import BadLiars, BadNeed, NoLevel
from gaugemiss.sharing import (apart_lots, clashes, depth, least_liars, most_shared, possible, shared, sure_honest,
                               sure_liars)
from gaugemiss.stretch import Levels, Stretch
from tests.checks import BIG, Checks, inside, stretches

SMALL = [Stretch(low, high) for low in range(-2, 3) for high in range(low, 3)]
LISTS = [list(some) for many in range(4) for some in itertools.product(SMALL, repeat=many)]
LEVELS = range(-4, 5)

THREE = stretches((0, 4), (2, 6), (5, 9))
CHAIN = stretches((0, 1), (1, 2), (2, 3), (3, 4))
MANY = [Stretch(k * BIG, (k + 10) * BIG - 1) for k in range(80)]


def set_of(levels):
    return {number for piece in levels for number in inside(piece)}


def depths(entries):
    return {level: sum(level in inside(each) for each in entries) for level in LEVELS}


class Depth(Checks):
    def test_all_short_lists(self):
        for entries in LISTS:
            self.assertEqual({level: depth(entries, level) for level in LEVELS}, depths(entries))

    def test_an_entry_that_occurs_twice_counts_twice(self):
        self.assertEqual(depth(stretches((1, 3), (1, 3), (3, 4)), 3), 3)
        self.assertEqual(depth(stretches((1, 3), (1, 3), (3, 4)), 1), 2)

    def test_no_entry_and_many(self):
        self.assertEqual(depth([], 0), 0)
        self.assertEqual(depth(MANY, 40 * BIG), 10)
        self.assertEqual(depth(stretches=MANY, level=-1), 0)


class Shared(Checks):
    def test_all_short_lists(self):
        for entries in LISTS:
            many = depths(entries)
            for need in range(1, len(entries) + 2):
                found = shared(entries, need)
                self.assertIsInstance(found, Levels)
                self.assertEqual(set_of(found), {level for level in LEVELS if many[level] >= need})

    def test_ordinary(self):
        self.assertEqual(shared(THREE, 1).ends(), [(0, 9)])
        self.assertEqual(shared(THREE, 2).ends(), [(2, 6)])
        self.assertEqual(shared(CHAIN, 2).ends(), [(1, 3)])
        self.assertEqual(shared(stretches((0, 2), (3, 5), (0, 5)), 2).ends(), [(0, 5)])
        self.assertEqual(shared(stretches((0, 2), (4, 5), (0, 5)), 2).ends(), [(0, 2), (4, 5)])
        self.assertEqual(shared(MANY, 10).ends(), [(9 * BIG, 80 * BIG - 1)])
        self.assertEqual(shared(stretches=MANY, need=11).ends(), [])

    def test_needs_at_and_beyond_the_limits(self):
        self.assertEqual(shared(THREE, 3), Levels())
        self.assertEqual(shared(THREE, 4), Levels())
        self.assertEqual(shared([], 1), Levels())
        self.assertEqual(shared([], BIG), Levels())
        for entries in ([], THREE):
            for need in (0, -1, -BIG):
                self.refuses(BadNeed, {"number": need}, shared, entries, need)

    def test_most_shared(self):
        for entries in LISTS:
            if entries:
                many = depths(entries)
                most = max(many.values())
                found = most_shared(entries)
                self.assertIsInstance(found, tuple)
                self.assertIsInstance(found[1], Levels)
                self.assertEqual((found[0], set_of(found[1])), (most, {x for x in LEVELS if many[x] == most}))
        self.assertEqual(most_shared(MANY), (10, Levels(Stretch(9 * BIG, 80 * BIG - 1))))

    def test_most_shared_of_no_entry(self):
        self.refuses(NoLevel, {}, most_shared, [])

    def test_least_liars(self):
        for entries in LISTS:
            self.assertEqual(least_liars(entries), len(entries) - max(depths(entries).values()))
        self.assertEqual(least_liars([]), 0)
        self.assertEqual(least_liars(stretches((1, 2), (3, 4))), 1)
        self.assertEqual(least_liars(stretches((1, 2), (2, 4))), 0)
        self.assertEqual(least_liars(MANY), 70)


class ApartLots(Checks):
    def test_ordinary(self):
        self.assertEqual(apart_lots(THREE), [[0, 2], [1]])
        self.assertEqual(apart_lots([]), [])
        self.assertEqual(apart_lots(stretches((3, 3))), [[0]])
        self.assertEqual(apart_lots(stretches((1, 2), (1, 2), (1, 2))), [[0], [1], [2]])

    def test_equal_low_ends_by_position_whatever_the_high_ends(self):
        self.assertEqual(apart_lots(stretches((0, 9), (0, 1), (2, 3))), [[0], [1, 2]])
        self.assertEqual(apart_lots(stretches((0, 1), (0, 9), (2, 3))), [[0, 2], [1]])

    def test_a_touching_stretch_fits_and_a_common_level_does_not(self):
        self.assertEqual(apart_lots(stretches((4, 5), (1, 3))), [[1, 0]])
        self.assertEqual(apart_lots(stretches((3, 5), (1, 3))), [[1], [0]])

    def test_the_first_fitting_lot_is_taken(self):
        self.assertEqual(apart_lots(stretches((0, 5), (1, 2), (7, 8), (4, 6))), [[0, 2], [1, 3]])
        self.assertEqual(apart_lots(CHAIN), [[0, 2], [1, 3]])

    def test_all_short_lists(self):
        for entries in LISTS:
            lots = apart_lots(entries)
            self.assertEqual(sorted(at for lot in lots for at in lot), list(range(len(entries))))
            self.assertEqual(len(lots), max(depths(entries).values()))
            for lot in lots:
                for one, other in itertools.combinations(lot, 2):
                    self.assertFalse(inside(entries[one]) & inside(entries[other]))

    def test_many(self):
        self.assertEqual(apart_lots(MANY), [list(range(k, 80, 10)) for k in range(10)])


class Possible(Checks):
    def test_all_short_lists(self):
        for entries in LISTS:
            many = depths(entries)
            for liars in range(len(entries)):
                numbers = {level for level in LEVELS if len(entries) - many[level] <= liars}
                found = possible(entries, liars)
                self.assertIsInstance(found, Levels)
                self.assertEqual(set_of(found), numbers)
                if numbers:
                    lying = [at for at, each in enumerate(entries) if not inside(each) & numbers]
                    honest = [at for at, each in enumerate(entries) if inside(each) >= numbers]
                    self.assertEqual(sure_liars(entries, liars), lying)
                    self.assertEqual(sure_honest(entries, liars), honest)
                else:
                    self.refuses(NoLevel, {}, sure_liars, entries, liars)
                    self.refuses(NoLevel, {}, sure_honest, entries, liars)

    def test_ordinary(self):
        self.assertEqual(possible(THREE, 1).ends(), [(2, 6)])
        self.assertEqual(possible(THREE, 2).ends(), [(0, 9)])
        self.assertEqual(possible(stretches=MANY, liars=70).ends(), [(9 * BIG, 80 * BIG - 1)])
        entries = stretches((0, 10), (20, 30), (4, 6), (5, 8), (0, 5))
        self.assertEqual(possible(entries, 1).ends(), [(5, 5)])
        self.assertEqual(sure_liars(entries, 1), [1])
        self.assertEqual(sure_honest(entries, 1), [0, 2, 3, 4])
        self.assertEqual(sure_honest(entries, 2), [0, 2])

    def test_an_entry_between_the_pieces_is_a_sure_liar(self):
        entries = stretches((0, 2), (8, 9), (0, 2), (8, 9), (4, 5), (1, 8))
        self.assertEqual(possible(entries, 3).ends(), [(1, 2), (8, 8)])
        self.assertEqual(sure_liars(entries, 3), [4])
        self.assertEqual(sure_honest(entries, 3), [5])

    def test_numbers_of_liars_at_and_beyond_the_limits(self):
        for call in (possible, sure_liars, sure_honest):
            for entries, liars in ((THREE, -1), (THREE, 3), (THREE, 4), (THREE, -BIG), (THREE, BIG), ([], 0), ([], -1),
                                   ([], 1), (stretches((1, 2), (5, 6)), 2), (stretches((1, 2)), 1)):
                self.refuses(BadLiars, {"number": liars}, call, entries, liars)
        self.assertEqual(possible(stretches((1, 2)), 0).ends(), [(1, 2)])
        self.assertEqual(sure_liars(THREE, 2), [])
        self.assertEqual(sure_honest(THREE, 2), [])

    def test_the_number_of_liars_is_checked_before_the_levels(self):
        entries = stretches((1, 2), (5, 6), (9, 9))
        for call in (sure_liars, sure_honest):
            self.refuses(NoLevel, {}, call, entries, 0)
            self.refuses(NoLevel, {}, call, entries, 1)
            self.refuses(BadLiars, {"number": 3}, call, entries, 3)
            self.refuses(BadLiars, {"number": -1}, call, entries, -1)


class Clashes(Checks):
    def test_all_short_lists(self):
        for entries in LISTS:
            pairs = itertools.combinations(range(len(entries)), 2)
            apart = [(i, j) for i, j in pairs if not inside(entries[i]) & inside(entries[j])]
            self.assertEqual(clashes(entries), apart)
            if entries and not apart:
                self.assertTrue(shared(entries, len(entries)))

    def test_ordinary(self):
        self.assertEqual(clashes(THREE), [(0, 2)])
        self.assertEqual(clashes(CHAIN), [(0, 2), (0, 3), (1, 3)])
        self.assertEqual(clashes(CHAIN[::-1]), [(0, 2), (0, 3), (1, 3)])
        self.assertEqual(clashes(stretches((1, 2), (3, 4), (1, 2))), [(0, 1), (1, 2)])
        self.assertEqual(clashes([]), [])
        self.assertEqual(clashes(stretches((1, 2))), [])

    def test_many(self):
        self.assertEqual(clashes(MANY), [(i, j) for i in range(80) for j in range(i + 10, 80)])


if __name__ == "__main__":
    unittest.main()
