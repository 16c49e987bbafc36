from tests.helpers import (
    Case, chosen_families, every_family, every_lot, gap_of, gated_families, gated_sample,
    small_families, true_depth,
)
from tests.test_met import true_pairs
from turnlots.away import just_at, within
from turnlots.breaks import is_gated
from turnlots.depths import deepest
from turnlots.errors import BadNumber
from turnlots.families import Family
from turnlots.met import met
from turnlots.neighbours import are_neighbours


def families():
    yield from small_families()
    yield from gated_families(4)[::50]
    yield from every_family(4, 641)
    yield from chosen_families((5,), 2)


class AwayTest(Case):
    def test_point_54_within_by_counting(self):
        for family in families():
            for k in range(family.size + 2):
                lots = [lot for lot in every_lot(family.size) if true_depth(family, lot) <= k]
                self.assertEqual(within(family, k), Family(family.size, lots))

    def test_point_54_just_at_by_counting(self):
        for family in families():
            for k in range(family.size + 1):
                lots = [
                    lot for lot in every_lot(family.size)
                    if any(gap_of(lot, other) == k for other in family)
                ]
                self.assertEqual(just_at(family, k), Family(family.size, lots))

    def test_point_54_within_goes_step_by_step(self):
        for family in families():
            self.assertEqual(within(family, 0), family)
            self.assertEqual(within(family, 10 ** 30), Family.everything(family.size))
            for j in range(3):
                for k in range(3):
                    self.assertEqual(within(within(family, j), k), within(family, j + k))

    def test_point_54_depths(self):
        for family in families():
            for k in range(3):
                for lot in every_lot(family.size):
                    depth = max(true_depth(family, lot) - k, 0)
                    self.assertEqual(within(family, k).depth(lot), depth)

    def test_point_54_joins_and_unions(self):
        for family in families():
            for k in range(family.size + 1):
                self.assertEqual(within(family, k), family + Family.sized(family.size, 0, k))
                lots = {lot for j in range(k + 1) for lot in just_at(family, j)}
                self.assertEqual(within(family, k), Family(family.size, sorted(lots)))

    def test_point_54_neighbours(self):
        for family in families():
            self.assertTrue(are_neighbours(family, within(family, 1)))
            self.assertEqual(are_neighbours(family, within(family, 2)), deepest(family) <= 1)

    def test_point_54_gated_families_stay_gated(self):
        for family in gated_sample():
            for k in range(family.size + 1):
                self.assertTrue(is_gated(within(family, k)))
                self.assertTrue(is_gated(just_at(family, k)))

    def test_point_55_met_within(self):
        for family in [*every_family(2), *every_family(3, 6), *every_family(4, 9001)]:
            for k in range(3):
                for wanted, unwanted in true_pairs(family.size):
                    expected = min(len(wanted + unwanted), met(family, (wanted, unwanted)) + k)
                    self.assertEqual(met(within(family, k), (wanted, unwanted)), expected)

    def test_sizes_1_and_10(self):
        self.assertEqual(just_at(Family.of(1, ()), 1), Family.of(1, (0,)))
        ten = Family.of(10, ())
        for k in range(11):
            self.assertEqual(just_at(ten, k), Family.sized(10, k, k))
            self.assertEqual(within(ten, k), Family.sized(10, 0, k))

    def test_numbers_that_are_wrong(self):
        family = Family.of(3, (0,))
        for number in (-1, True, None, "1", 1.0, -10 ** 30):
            self.assert_error(BadNumber("number"), within, family, number)
            self.assert_error(BadNumber("number"), just_at, family, number)
        for number in (4, 10 ** 30):
            self.assert_error(BadNumber("number"), just_at, family, number)
            self.assertEqual(within(family, number), Family.everything(3))
