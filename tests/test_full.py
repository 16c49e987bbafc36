import itertools

from tests.helpers import (
    Case, chosen_families, every_family, every_lot, gated_families, gated_row, small_families,
)
from tests.test_bonds import true_marks
from tests.test_met import true_pairs
from turnlots.breaks import is_gated
from turnlots.errors import TooMany
from turnlots.families import Family
from turnlots.full import filled, hole, is_full, reach_gap
from turnlots.met import reach


def true_filled(family):
    """All lots with a lot of the family within them and one around them: point 84."""
    return [
        lot for lot in every_lot(family.size)
        if any(set(one) <= set(lot) for one in family) and any(set(lot) <= set(one) for one in family)
    ]


def true_reach_gap(family):
    for wanted, unwanted in true_pairs(family.size):
        apart = reach(family, (wanted, ())) + reach(family, ((), unwanted))
        if reach(family, (wanted, unwanted)) < apart:
            return wanted, unwanted
    return None


def families():
    yield from small_families()
    yield from gated_families(4)
    yield from every_family(4, 401)
    yield from chosen_families((5, 6), 3)


def outer_lots(family):
    """The lots that contain no other lot of the family, and those that lie in no other one."""
    lots = [set(lot) for lot in family]
    return (
        [lot for lot in family if not any(other < set(lot) for other in lots)],
        [lot for lot in family if not any(set(lot) < other for other in lots)],
    )


class FullTest(Case):
    def test_point_84_holes_and_filled_families(self):
        seen = {True: 0, False: 0}
        for family in families():
            lots = true_filled(family)
            holes = [lot for lot in lots if lot not in family]
            self.assert_same(hole(family), holes[0] if holes else None)
            self.assert_same(is_full(family), holes == [])
            self.assertEqual(filled(family), Family(family.size, lots))
            seen[holes == []] += 1
        self.assertGreater(min(seen.values()), 50)

    def test_point_84_filled_again(self):
        for family in [*small_families(), *gated_families(4)[::20], *chosen_families((5, 6), 2)]:
            self.assertTrue(is_full(filled(family)))
            self.assertEqual(filled(filled(family)), filled(family))
            self.assertEqual(filled(family) == family, is_full(family))
            least, most = outer_lots(family)
            self.assertEqual(filled(Family(family.size, sorted({*least, *most}))), filled(family))
            if is_gated(family):
                self.assertTrue(is_gated(filled(family)))
                self.assertEqual(outer_lots(filled(family)), (least, most))

    def test_sizes_1_and_10(self):
        for lots in ([()], [(0,)], [(), (0,)]):
            self.assertIsNone(hole(Family(1, lots)))
        ends = Family.of(10, tuple(range(10)), ())
        self.assert_same(hole(ends), (0,))
        self.assertEqual(filled(ends), Family.everything(10))
        self.assertIsNone(hole(Family.sized(10, 3, 7)))
        self.assertIsNone(hole(Family.sized(10, 5, 5)))


class ReachGapTest(Case):
    def test_point_85_first_reach_gap(self):
        for family in [*small_families(), *every_family(4, 4001), *chosen_families((5,), 1), *gated_row(5)]:
            self.assert_same(reach_gap(family), true_reach_gap(family))

    def test_point_85_full_by_reach(self):
        for family in [*small_families(), *every_family(4, 3001)]:
            if reach_gap(family) is None:
                self.assertTrue(is_full(family))
            if is_full(family):
                self.assertFalse([mark for mark in true_marks(family) if mark[3]])

    def test_point_85_three_that_are_the_same_in_gated_families(self):
        for family in [*gated_families(3), *gated_families(4)[::90], *gated_row(5), *gated_row(6)]:
            mates = [mark for mark in true_marks(family) if mark[3]]
            self.assertEqual(is_full(family), mates == [])
            self.assertEqual(is_full(family), reach_gap(family) is None)

    def test_point_85_not_the_same_in_other_families(self):
        # no mates, but not full; and full, but with a reach gap
        family = Family.of(3, (), (0, 1, 2))
        self.assertEqual((true_marks(family), is_full(family)), ([], False))
        found = [
            family for family in itertools.chain(every_family(3), every_family(4, 211))
            if is_full(family) and reach_gap(family) is not None
        ]
        self.assertTrue(found)
        self.assertFalse(any(is_gated(family) for family in found))

    def test_sizes(self):
        self.assertIsNone(reach_gap(Family.everything(1)))
        self.assertIsNone(reach_gap(Family.sized(6, 2, 4)))
        for size in (7, 10):
            self.assert_error(TooMany("things"), reach_gap, Family.of(size, ()))
