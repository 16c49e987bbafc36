import itertools

from tests.helpers import (
    Case, every_family, every_lot, gated_families, gated_row, small_families,
)
from tests.test_met import true_pairs
from tests.test_small import taken_off
from turnlots.bases import At
from turnlots.breaks import is_gated
from turnlots.errors import BadNumber, BadThing, NoLot, OtherSize, TooMany
from turnlots.families import Family
from turnlots.met import met
from turnlots.neighbours import are_neighbours
from turnlots.small import forget, in_of, out_of
from turnlots.stacks import stacked, unstacked


def put_in(lots, x, has):
    """The lots with room for the thing x, which they get if has is True."""
    moved = [[y + (y >= x) for y in lot] + [x] * has for lot in lots]
    return [tuple(sorted(lot)) for lot in moved]


class StacksTest(Case):
    def test_point_52_stacked(self):
        pairs = [*itertools.product(every_family(2), every_family(2)), *zip(gated_row(5), gated_row(5))]
        for one, other in pairs:
            for x in range(one.size + 1):
                lots = put_in(one.lots, x, False) + put_in(other.lots, x, True)
                self.assertEqual(stacked(one, other, x), Family(one.size + 1, lots))

    def test_point_52_there_and_back(self):
        for one, other in [*itertools.product(every_family(3, 9), every_family(3, 8))]:
            for x in range(4):
                found = unstacked(stacked(one, other, x), x)
                self.assertIsInstance(found, tuple)
                self.assertEqual(found, (one, other))
        for family in [*small_families(), *every_family(4, 211)]:
            for x in family.loose() if family.size > 1 else ():
                one, other = unstacked(family, x)
                self.assertEqual((one, other), (out_of(family, x), in_of(family, x)))
                self.assertEqual(stacked(one, other, x), family)

    def test_point_52_stacked_families_are_gated_exactly_for_neighbours(self):
        for size, step in ((1, 1), (2, 1), (3, 5)):
            families = gated_families(size)[::step]
            for one, other in itertools.product(families, families):
                for x in (0, size):
                    self.assertEqual(is_gated(stacked(one, other, x)), are_neighbours(one, other))

    def test_point_52_each_gated_family_comes_thing_by_thing(self):
        for size in (2, 3):
            made = set()
            for one, other in itertools.product(gated_families(size - 1), repeat=2):
                if are_neighbours(one, other):
                    made.add(stacked(one, other, size - 1).lots)
            for one in gated_families(size - 1):
                made.add(one.lots)
                made.add(tuple(sorted(lot + (size - 1,) for lot in one)))
            self.assertEqual(made, {family.lots for family in gated_families(size)})

    def test_point_55_bases_of_small_tables(self):
        for family in [*gated_families(2), *gated_families(3), *gated_families(4)[::100]]:
            for x in family.loose():
                for lot in every_lot(family.size):
                    if x not in lot:
                        self.check_bases(family, x, lot)

    def check_bases(self, family, x, lot):
        there = taken_off(lot, (x,))
        bases = [base for base in At(family, lot).bases() if x not in base]
        self.assertEqual(
            At(out_of(family, x), there).bases(), sorted(taken_off(base, (x,)) for base in bases))
        bases = [base for base in At(family, lot + (x,)).bases() if x not in base]
        self.assertEqual(
            At(in_of(family, x), there).bases(), sorted(taken_off(base, (x,)) for base in bases))

    def test_point_55_met_of_small_tables(self):
        for family in [*every_family(2), *every_family(3, 5), *gated_families(4)[::300]]:
            for x in family.loose():
                for wanted, unwanted in true_pairs(family.size):
                    if x not in wanted + unwanted:
                        self.check_met(family, x, wanted, unwanted)

    def check_met(self, family, x, wanted, unwanted):
        there = taken_off(wanted, (x,)), taken_off(unwanted, (x,))
        self.assertEqual(met(forget(family, x), there), met(family, (wanted, unwanted)))
        out = met(family, (wanted, unwanted + (x,))) - 1
        held = met(family, (wanted + (x,), unwanted)) - 1
        if is_gated(family):
            self.assertEqual(met(out_of(family, x), there), out)
            self.assertEqual(met(in_of(family, x), there), held)
        self.assertLessEqual(met(out_of(family, x), there), out)
        self.assertLessEqual(met(in_of(family, x), there), held)

    def test_stacked_errors_and_their_order(self):
        one, ten = Family.of(1, ()), Family.of(10, ())
        self.assert_error(TooMany("things"), stacked, ten, one, None)
        self.assert_error(TooMany("things"), stacked, ten, ten, 0)
        self.assert_error(OtherSize(10), stacked, one, ten, None)
        for thing in (-1, 2, True, None, "0", 0.0):
            self.assert_error(BadThing(thing), stacked, one, one, thing)
        nine = Family.of(9, ())
        self.assertEqual(stacked(nine, nine, 9), Family.of(10, (), (9,)))

    def test_unstacked_errors_and_their_order(self):
        family = Family.of(2, (0,))
        for thing in (-1, 2, True, None):
            self.assert_error(BadThing(thing), unstacked, family, thing)
        for thing in (0, 1):
            self.assert_error(NoLot(), unstacked, family, thing)
        self.assert_error(BadNumber("size"), unstacked, Family.everything(1), 0)
        self.assert_error(BadThing(1), unstacked, Family.everything(1), 1)
