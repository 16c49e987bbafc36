import itertools

from tests.helpers import (
    Case, between, chosen_families, every_family, every_lot, family_by, gated_families, gated_row,
    true_depth, true_nearest,
)
from turnlots.bases import At
from turnlots.breaks import is_gated
from turnlots.errors import OtherSize
from turnlots.families import Family
from turnlots.neighbours import are_neighbours, clash
from turnlots.small import in_of, out_of


def keeps_rule(one, other, lot):
    """The rule of neighbours at a lot of things: point 51, word by word."""
    depths = true_depth(one, lot), true_depth(other, lot)
    if abs(depths[0] - depths[1]) > 1:
        return False
    if depths[0] == depths[1]:
        return true_nearest(one, lot) == true_nearest(other, lot)
    deep, flat = (one, other) if depths[0] > depths[1] else (other, one)
    return all(any(between(row, lot, near) for row in flat) for near in true_nearest(deep, lot))


def true_clash(one, other):
    return next((lot for lot in every_lot(one.size) if not keeps_rule(one, other, lot)), None)


def pairs_of_families():
    for size in (1, 2):
        yield from itertools.product(every_family(size), every_family(size))
    yield from itertools.product(every_family(3, 11), every_family(3, 13))
    some = [*every_family(4, 9001), *gated_families(4)[::500]]
    yield from itertools.product(some, some)


def gated_pairs():
    for size in (1, 2):
        yield from itertools.product(gated_families(size), gated_families(size))
    yield from itertools.product(gated_families(3)[::4], gated_families(3)[::7])


class NeighboursTest(Case):
    def test_point_51_first_clash(self):
        seen = {True: 0, False: 0}
        for one, other in pairs_of_families():
            expected = true_clash(one, other)
            self.assert_same(clash(one, other), expected)
            self.assert_same(are_neighbours(one, other), expected is None)
            seen[expected is None] += 1
        self.assertGreater(min(seen.values()), 30)

    def test_point_51_larger_families(self):
        for size in (5, 6):
            families = list(gated_row(size))
            for one, other in itertools.product(families, families):
                self.assert_same(clash(one, other), true_clash(one, other))

    def test_point_51_each_way_to_clash(self):
        # the depths differ by two; they are equal, but not the nearest lots; nothing is between
        self.assert_same(clash(Family.of(2, ()), Family.of(2, (0, 1))), ())
        self.assert_same(clash(Family.of(2, (0,)), Family.of(2, (1,))), ())
        one, other = Family.of(3, (0,)), Family.of(3, (0, 1), (0, 2), (1, 2))
        self.assert_same(clash(one, other), ())
        self.assertEqual(true_depth(one, ()) + 1, true_depth(other, ()))
        self.assert_same(are_neighbours(one, Family.of(3, (0, 1), (0, 2))), True)

    def test_point_51_sizes_1_and_10(self):
        self.assert_same(are_neighbours(Family.of(1, ()), Family.of(1, (0,))), True)
        ten = Family.sized(10, 5, 5)
        self.assertIsNone(clash(ten, Family.sized(10, 4, 4)))
        self.assertEqual(clash(ten, Family.sized(10, 3, 3)), ())
        self.assertEqual(clash(Family.everything(10), Family.of(10, ())), (0, 1))

    def test_point_53_the_order_of_the_two_makes_no_difference(self):
        for one, other in pairs_of_families():
            self.assertEqual(are_neighbours(one, other), are_neighbours(other, one))

    def test_point_53_turned(self):
        for one, other in gated_pairs():
            for lot in every_lot(one.size)[::2]:
                self.assertEqual(are_neighbours(one ^ lot, other ^ lot), are_neighbours(one, other))

    def test_point_53_both_together(self):
        for one, other in gated_pairs():
            if are_neighbours(one, other):
                lots = {*one.lots, *other.lots}
                self.assertTrue(is_gated(Family(one.size, sorted(lots))))

    def test_point_53_by_the_bases(self):
        for one, other in gated_pairs():
            kept = all(self.bases_agree(At(one, lot), At(other, lot)) for lot in every_lot(one.size))
            self.assertEqual(are_neighbours(one, other), kept)

    def bases_agree(self, one, other):
        if one == other:
            return True
        low, high = sorted([one, other], key=lambda at: at.rank)
        held = all(any(set(base) <= set(row) for base in low.bases()) for row in high.bases())
        return high.rank == low.rank + 1 and held

    def test_point_52_out_and_in_of_a_gated_family(self):
        for family in [*gated_families(3), *gated_families(4)[::15], *gated_row(6)]:
            for x in family.loose():
                self.assertTrue(are_neighbours(out_of(family, x), in_of(family, x)))

    def test_point_54_a_family_and_itself(self):
        for family in [*every_family(3, 7), *chosen_families((4, 5), 3)]:
            self.assertIsNone(clash(family, family))
            self.assertIsNone(clash(family, family_by(family.size, 1) + family))

    def test_other_sizes(self):
        for one, other in itertools.product((1, 2, 10), repeat=2):
            if one != other:
                for call in (clash, are_neighbours):
                    self.assert_error(OtherSize(other), call, Family.of(one, ()), Family.of(other, ()))
