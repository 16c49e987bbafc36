import itertools

from tests.helpers import (
    Case, chosen_families, every_lot, gated_sample, plus, small_families, true_depth, true_nearest,
)
from turnlots.depths import deepest, depth_of, level_lots, lowers, raises
from turnlots.errors import BadLot, BadNumber
from turnlots.families import Family


class DepthsTest(Case):
    def test_point_5_depths_and_what_lowers_and_raises(self):
        for family in itertools.chain(small_families(), chosen_families()):
            for lot in every_lot(family.size):
                depth = true_depth(family, lot)
                self.assert_same(depth_of(family, list(lot)), depth)
                around = [true_depth(family, plus(lot, (x,))) for x in range(family.size)]
                self.assertTrue(all(abs(other - depth) <= 1 for other in around))
                low = tuple(x for x, other in enumerate(around) if other < depth)
                high = tuple(x for x, other in enumerate(around) if other > depth)
                self.assert_same(lowers(family, lot[::-1]), low)
                self.assert_same(raises(family, lot), high)

    def test_point_26_levels(self):
        for family in itertools.chain(small_families(), chosen_families()):
            lots = every_lot(family.size)
            depths = {lot: true_depth(family, lot) for lot in lots}
            self.assert_same(level_lots(family, 0), list(family.lots))
            self.assert_same(deepest(family), max(depths.values()))
            for level in range(family.size + 2):
                found = level_lots(family, level)
                self.assert_same(found, [lot for lot in lots if depths[lot] == level])
                self.assertEqual(found == [], level > deepest(family))

    def test_edges_of_the_sizes(self):
        one = Family.of(1, (0,))
        self.assert_same([lowers(one, ()), raises(one, (0,)), raises(one, ())], [(0,), (0,), ()])
        self.assert_same([deepest(one), level_lots(one, 1), level_lots(one, 10 ** 30)], [1, [()], []])
        every = Family.everything(10)
        self.assert_same([deepest(every), lowers(every, (3,)), level_lots(every, 1)], [0, (), []])
        lone = Family.of(10, ())
        self.assert_same(raises(lone, ()), tuple(range(10)))
        self.assert_same(level_lots(lone, 10), [tuple(range(10))])

    def test_point_24_a_lot_between_a_nearest_and_a_farthest_one(self):
        for family in gated_sample():
            for lot in every_lot(family.size):
                near = [set(plus(lot, row)) for row in true_nearest(family, lot)]
                far = [set(plus(lot, row)) for row in true_farthest(family, lot)]
                for row in family.lots:
                    here = set(plus(row, lot))
                    self.assertTrue(any(other <= here for other in near))
                    self.assertTrue(any(here <= other for other in far))

    def test_point_24_near_rises_no_faster_than_far(self):
        for family in list(gated_sample())[::4]:
            lots = every_lot(family.size)
            for lot in lots[::3]:
                near = [set(plus(lot, row)) for row in true_nearest(family, lot)]
                far = [set(plus(lot, row)) for row in true_farthest(family, lot)]
                for some in lots:
                    for x in range(family.size):
                        more = set(some) | {x}
                        rise = most(near, more) - most(near, some)
                        self.assertLessEqual(rise, most(far, more) - most(far, some))

    def test_errors(self):
        family = Family.of(3, (0,))
        for function in (depth_of, lowers, raises):
            self.assert_error(BadLot(-1), function, family, None)
            self.assert_error(BadLot(1), function, family, (0, 3))
            self.assert_error(BadLot(2), function, family, (0, 1, 1))
        for level in (-1, True, None, "0", 1.0):
            self.assert_error(BadNumber("level"), level_lots, family, level)

    def test_point_1_answers_are_new(self):
        self.assert_new(level_lots, Family.of(3, (0,)), 1)


def true_farthest(family, lot):
    greatest = max(len(plus(lot, row)) for row in family.lots)
    return [row for row in family.lots if len(plus(lot, row)) == greatest]


def most(lots, things):
    return max(len(row & set(things)) for row in lots)
