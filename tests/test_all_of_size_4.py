"""Bonds, chains, parts, right lots, rings and filled families, counted for all gated families of size 4."""

from tests.helpers import Case, every_lot, gated_families
from tests.test_bonds import true_marks
from tests.test_full import true_filled
from tests.test_partings import true_chains, true_parts_by
from tests.test_sides import true_wrong
from turnlots.bonds import bonds
from turnlots.full import filled
from turnlots.partings import chains, finest
from turnlots.sides import odd_ring, right_sides


class AllOfSizeFourTest(Case):
    def test_points_76_to_86_by_counting(self):
        for family in gated_families(4):
            marks = true_marks(family)
            self.assertEqual(bonds(family), marks)
            self.assertEqual(chains(family), true_chains(family))
            right = [lot for lot in every_lot(4) if true_wrong(marks, lot) is None]
            self.assertEqual(right_sides(family), right)
            self.assertEqual(odd_ring(family) is None, right != [])
            self.assertEqual(list(filled(family)), true_filled(family))
            self.check_parts(family)

    def check_parts(self, family):
        # each part parts the family, and no smaller lot within a part does
        parts = finest(family)
        self.assertEqual(parts, chains(family))
        self.assertEqual(sorted(x for part in parts for x in part), [0, 1, 2, 3])
        for part in parts:
            if len(part) < 4:
                self.assertTrue(true_parts_by(family, part))
            for lot in every_lot(4):
                if 0 < len(lot) < len(part) and set(lot) < set(part):
                    self.assertFalse(true_parts_by(family, lot))
