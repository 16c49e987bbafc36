import itertools

from tests.helpers import (
    Case, every_family, every_lot, gated_families, gated_sample, plus, small_families, true_depth,
)
from turnlots.bases import At
from turnlots.breaks import is_gated
from turnlots.errors import BadNumber, BadTable, BrokenRule
from turnlots.families import Family
from turnlots.rules import broken_rule, depth_table, family_of_depths, is_depth, lessened


def all_breaches(size, table):
    """All breaches of the four depth rules, ascending: point 32, word by word."""
    lots = every_lot(size)
    entries = dict(zip(lots, table))
    things = range(size)
    found = []
    for lot in lots:
        def d(*exchanged):
            return entries[plus(lot, exchanged)]
        found += [(1, lot, (x,)) for x in things if abs(d() - d(x)) > 1]
        if d() > 0 and not any(d(x) < d() for x in things):
            found.append((2, lot, ()))
        for x, y in itertools.combinations(things, 2):
            if d(x, y) < d() and not (d(x) < d() or d(y) < d()):
                found.append((3, lot, (x, y)))
        for x, z, y in itertools.permutations(things, 3):
            if x < z and d(x, z) <= d() - 2 and d(y) < d():
                if not (d(x, y) <= d() - 2 or d(z, y) <= d() - 2):
                    found.append((4, lot, (x, z, y)))
    return sorted(found)


ALONE = {
    1: (2, (0, 0, 0, 2)),
    2: (2, (1, 1, 1, 1)),
    3: (3, (0, 0, 0, 0, 0, 1, 1, 1)),
    4: (4, (0, 1, 2, 1, 0, 1, 2, 1, 2, 1, 2, 1, 2, 1, 2, 1)),
}


class RulesTest(Case):
    def test_point_31_depth_tables(self):
        for family in [*small_families(), *every_family(4, 2111)]:
            table = depth_table(family)
            self.assert_same(table, tuple(true_depth(family, lot) for lot in every_lot(family.size)))

    def test_point_32_the_first_breach_of_all_small_tables(self):
        tables = [(1, table) for table in itertools.product(range(4), repeat=2)]
        tables += [(2, table) for table in itertools.product(range(4), repeat=4)]
        tables += [(3, table) for table in [*itertools.product(range(3), repeat=8)][::7]]
        for size, table in tables:
            self.check_table(size, table)

    def check_table(self, size, table):
        breaches = all_breaches(size, table)
        self.assert_same(broken_rule(size, list(table)), breaches[0] if breaches else None)
        self.assert_same(is_depth(size, table), breaches == [])
        if breaches:
            self.assert_error(BrokenRule(*breaches[0][:2]), family_of_depths, size, table)
        else:
            family = family_of_depths(size, table)
            lots = [lot for lot, entry in zip(every_lot(size), table) if entry == 0]
            self.assertEqual(family, Family(size, lots))
            self.assertEqual(depth_table(family), table)
            self.assertTrue(is_gated(family))

    def test_point_32_one_entry_changed(self):
        for family in [*gated_families(3)[::9], *gated_families(4)[::600]]:
            table = depth_table(family)
            for place, entry in itertools.product(range(len(table)), range(4)):
                self.check_table(family.size, table[:place] + (entry,) + table[place + 1:])

    def test_point_33_families_keep_rules_1_and_2_and_gated_ones_all_four(self):
        for family in [*small_families(), *every_family(4, 31)]:
            breach = broken_rule(family.size, depth_table(family))
            self.assertEqual(breach is None, is_gated(family))
            self.assertTrue(breach is None or breach[0] >= 3)

    def test_point_33_each_rule_is_broken_alone(self):
        for rule, (size, table) in ALONE.items():
            self.assertEqual({breach[0] for breach in all_breaches(size, table)}, {rule})
            self.assert_same(broken_rule(size, table), all_breaches(size, table)[0])
            self.assertIs(is_depth(size, table), False)

    def test_the_first_breach_of_several(self):
        self.assert_same(broken_rule(1, (0, 2)), (1, (), (0,)))
        self.assert_same(broken_rule(2, (1, 1, 1, 1)), (2, (), ()))
        self.assert_same(broken_rule(3, ALONE[3][1]), (3, (1, 2), (1, 2)))
        self.assert_same(broken_rule(4, ALONE[4][1]), (4, (0, 1), (0, 1, 2)))
        self.assert_same(broken_rule(2, (3, 1, 0, 5)), (1, (), (0,)))

    def test_points_33_and_42_there_and_back(self):
        for size in (1, 2, 3, 4):
            for family in gated_families(size):
                self.assertEqual(family_of_depths(size, depth_table(family)), family)
        for family in (Family.everything(10), Family.sized(10, 5, 5), Family.of(10, ())):
            self.assertEqual(family_of_depths(10, list(depth_table(family))), family)

    def test_wrong_tables_and_the_order_of_errors(self):
        for function in (broken_rule, is_depth, family_of_depths):
            for size in (0, 11, -1, True, None, "2"):
                self.assert_error(BadNumber("size"), function, size, None)
            for table in (None, "0000", {0: 0, 1: 0, 2: 0, 3: 0}, 4):
                self.assert_error(BadTable(-1), function, 2, table)
            for table in ((), [0], (0, None, 1), (None,) * 5):
                self.assert_error(BadTable(-2), function, 2, table)
            for place, entry in itertools.product(range(4), (-1, True, None, "0", 1.0)):
                table = [5] * place + [entry] + [None] * (3 - place)
                self.assert_error(BadTable(place), function, 2, table)

    def test_point_34_lessened(self):
        self.assert_same(lessened([3, 0, 1, 2], 1), (2, 0, 0, 1))
        self.assert_same(lessened((3, 0), 0), (3, 0))
        self.assert_same(lessened((), 7), ())
        self.assert_same(lessened([10 ** 30], 10 ** 29), (9 * 10 ** 29,))

    def test_point_34_lessened_wrong_arguments(self):
        for table, number, error in (
            (None, None, BadTable(-1)), ("01", 1, BadTable(-1)), ({}, 1, BadTable(-1)),
            ((0, -1, None), None, BadTable(1)), ([True], -1, BadTable(0)), ((1, 2.0), 0, BadTable(1)),
            ((), -1, BadNumber("number")), ((1,), True, BadNumber("number")), ((1,), None, BadNumber("number")),
            ([], "1", BadNumber("number")),
        ):
            self.assert_error(error, lessened, table, number)

    def test_point_34_lessened_tables_of_gated_families(self):
        for family in list(gated_sample())[::2]:
            table = depth_table(family)
            lots = every_lot(family.size)
            for number in range(max(table) + 2):
                wider = family_of_depths(family.size, lessened(table, number))
                near = [lot for lot, depth in zip(lots, table) if depth <= number]
                self.assertEqual(wider, Family(family.size, near))
                self.assertTrue(is_gated(wider))
                for lot, depth in list(zip(lots, table))[::3]:
                    at = At(family, lot)
                    many = max(depth - number, 0)
                    free = [row for row in lots if len(row) == many and at.is_independent(row)]
                    self.assertEqual(At(wider, lot).bases(), free)

    def test_point_1_arguments_stay(self):
        table = [0, 1, 0, 1]
        for function in (broken_rule, is_depth, family_of_depths):
            function(2, table)
        lessened(table, 1)
        self.assertEqual(table, [0, 1, 0, 1])
