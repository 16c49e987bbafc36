import itertools

from tests.helpers import (
    Case, chosen_families, every_family, every_lot, gated_families, gated_row, small_families,
    true_depth,
)
from tests.test_met import true_pairs
from tests.test_small import taken_off, true_small
from turnlots.breaks import is_gated
from turnlots.counts import (
    added, depth_list, multiplied, pushed, short_table, shortfall, total,
)
from turnlots.errors import BadNumber, BadTable, BadThing, TooMany
from turnlots.families import Family
from turnlots.small import forget, in_of, out_of


def families():
    yield from small_families()
    yield from every_family(4, 1103)
    yield from chosen_families((5, 6), 2)


def true_depths(family):
    return [true_depth(family, lot) for lot in every_lot(family.size)]


def true_list(family):
    depths = true_depths(family)
    return tuple(depths.count(depth) for depth in range(max(depths) + 1))


def true_shortfall(family, x):
    parts = [Family(family.size - 1, true_small(family, *pair)) for pair in (((x,), ()), ((), (x,)))]
    return sum(sum(true_depths(part)) for part in parts) - sum(true_depths(family))


def true_short_table(family):
    for inside, out in true_pairs(family.size):
        lots = true_small(family, inside, out)
        if lots and len(inside + out) <= family.size - 2:
            table = Family(family.size - len(inside + out), lots)
            for x in table.loose():
                if true_shortfall(table, x):
                    return (inside, out), x
    return None


class DepthListTest(Case):
    def test_point_47_depth_list_and_total(self):
        for family in families():
            self.assert_same(depth_list(family), true_list(family))
            self.assert_same(total(family), sum(true_depths(family)))

    def test_point_47_sizes_1_and_10(self):
        self.assert_same(depth_list(Family.of(1, (0,))), (1, 1))
        self.assert_same(depth_list(Family.everything(1)), (2,))
        self.assert_same(depth_list(Family.everything(10)), (1024,))
        self.assert_same(total(Family.everything(10)), 0)
        binomials = (1, 10, 45, 120, 210, 252, 210, 120, 45, 10, 1)
        self.assert_same(depth_list(Family.of(10, (1, 4, 7))), binomials)
        self.assert_same(total(Family.of(10, ())), 5120)
        self.assert_same(depth_list(Family.sized(10, 5, 5)), (252, 420, 240, 90, 20, 2))

    def test_point_50_sums_of_the_depth_list(self):
        for family in families():
            counts = depth_list(family)
            self.assertEqual(sum(counts), 1 << family.size)
            self.assertEqual(counts[0], len(family))
            self.assertEqual(sum(k * count for k, count in enumerate(counts)), total(family))
            self.assertNotEqual(counts[-1], 0)

    def test_point_50_turned(self):
        for family in families():
            for lot in every_lot(family.size)[::3]:
                self.assertEqual(depth_list(family ^ lot), depth_list(family))

    def test_point_50_side_by_side(self):
        some = [*every_family(1), *every_family(2), *every_family(3, 23), *chosen_families((4, 5), 1)]
        for one, other in itertools.product(some, some):
            expected = multiplied(depth_list(one), depth_list(other))
            self.assertEqual(depth_list(one * other), expected)

    def test_point_50_a_fixed_thing(self):
        for family in families():
            for x in family.fixed_in() + family.fixed_out() if family.size > 1 else ():
                rest = in_of(family, x) if x in family.fixed_in() else out_of(family, x)
                row = depth_list(rest)
                self.assertEqual(depth_list(family), added(row, pushed(row)))

    def test_point_50_families_of_one_parity(self):
        seen = 0
        for family in families():
            if len({len(lot) % 2 for lot in family}) == 1:
                counts = depth_list(family)
                self.assertEqual(sum(counts[::2]), sum(counts[1::2]))
                seen += 1
        self.assertGreater(seen, 20)

    def test_point_50_out_and_in_of_a_gated_family(self):
        for family in [*gated_families(2), *gated_families(3), *gated_families(4)[::20], *gated_row(6)]:
            for x in family.loose():
                parts = added(depth_list(out_of(family, x)), depth_list(in_of(family, x)))
                self.assertEqual(depth_list(family), parts)
        broken = Family.of(3, (), (0, 1, 2))
        parts = added(depth_list(out_of(broken, 0)), depth_list(in_of(broken, 0)))
        self.assertNotEqual(depth_list(broken), parts)

    def test_point_49_the_list_of_forget_has_the_lesser_depths(self):
        for family in families():
            for x in range(family.size) if family.size > 1 else ():
                least = [
                    min(true_depth(family, lot), true_depth(family, tuple(sorted(lot + (x,)))))
                    for lot in every_lot(family.size) if x not in lot
                ]
                self.assertEqual(total(forget(family, x)), sum(least))
                counts = tuple(least.count(depth) for depth in range(max(least) + 1))
                self.assertEqual(depth_list(forget(family, x)), counts)


class ShortfallTest(Case):
    def test_point_47_and_49_shortfall(self):
        for family in families():
            for x in family.loose() if family.size > 1 else ():
                found = shortfall(family, x)
                self.assert_same(found, true_shortfall(family, x))
                self.assertGreaterEqual(found, 0)

    def test_point_49_no_depth_in_a_small_table_is_less(self):
        for family in families():
            for x in range(family.size) if family.size > 1 else ():
                for lot in every_lot(family.size):
                    rest = taken_off(lot, (x,))
                    if x in lot and x not in family.fixed_out():
                        self.assertGreaterEqual(true_depth(in_of(family, x), rest), true_depth(family, lot))
                    if x not in lot and x not in family.fixed_in():
                        self.assertGreaterEqual(true_depth(out_of(family, x), rest), true_depth(family, lot))

    def test_point_49_short_table_is_none_exactly_for_gated_families(self):
        for family in [*small_families(), *every_family(4, 487), *chosen_families((5, 6), 1)]:
            found = short_table(family)
            self.assertEqual(found is None, is_gated(family))
            self.assert_same(found, true_short_table(family))

    def test_point_49_loose_things_of_gated_families(self):
        for family in [*gated_families(3), *gated_families(4)[::10], Family.sized(10, 4, 6)]:
            for x in family.loose():
                self.assert_same(shortfall(family, x), 0)

    def test_short_tables_within(self):
        # two lots side by side with what is not gated: the first table with a shortfall is a small one
        family = Family.of(4, (), (1, 2, 3), (0,), (0, 1), (0, 2), (0, 3), (0, 1, 2), (0, 1, 3), (0, 2, 3))
        self.assert_same(short_table(family), true_short_table(family))
        self.assert_same(short_table(Family.of(6, (), (3, 4, 5))), (((), ()), 3))
        for size in (1, 6):
            self.assertIsNone(short_table(Family.everything(size)))


class RowsTest(Case):
    rows = [(), [0], (3,), [-1, 2], (0, 0, 5), [10 ** 28, -1, 0, 7, 0], (0, 0)]

    def test_point_47_added(self):
        for one, other in itertools.product(self.rows, self.rows):
            expected = tuple(a + b for a, b in itertools.zip_longest(one, other, fillvalue=0))
            self.assert_same(added(one, other), expected)

    def test_point_47_multiplied(self):
        for one, other in itertools.product(self.rows, self.rows):
            expected = ()
            if one and other:
                expected = tuple(
                    sum(one[i] * other[k - i] for i in range(len(one)) if 0 <= k - i < len(other))
                    for k in range(len(one) + len(other) - 1)
                )
            self.assert_same(multiplied(one, other), expected)
        self.assert_same(multiplied([1, 1], (1, 1, 0)), (1, 2, 1, 0))

    def test_point_50_pushed(self):
        for row in self.rows:
            self.assert_same(pushed(row), (0,) + tuple(row))

    def test_rows_stay_as_they_are(self):
        one, other = [1, 2], [3]
        added(one, other), multiplied(one, other), pushed(one)
        self.assertEqual([one, other], [[1, 2], [3]])


class ErrorsTest(Case):
    def test_shortfall(self):
        family = Family.of(3, (0,), (0, 1))
        for thing in (0, 2, 3, -1, True, None, "1", 1.0):
            self.assert_error(BadThing(thing), shortfall, family, thing)
        # not loose, and nothing would be left: the thing comes first here
        self.assert_error(BadThing(0), shortfall, Family.of(1, ()), 0)
        self.assert_error(BadThing(1), shortfall, Family.everything(1), 1)
        self.assert_error(BadNumber("size"), shortfall, Family.everything(1), 0)

    def test_short_table(self):
        for size in (7, 10):
            self.assert_error(TooMany("things"), short_table, Family.of(size, (), (0, 1, 2)))

    def test_rows(self):
        for row, place in ((None, -1), ("12", -1), ({}, -1), ([1, True], 1), ((0, 1, 2.0), 2), ([None], 0)):
            self.assert_error(BadTable(place), pushed, row)
            for call in (added, multiplied):
                self.assert_error(BadTable(place), call, row, None)
                self.assert_error(BadTable(place), call, row, [1, "x"])
                self.assert_error(BadTable(place), call, (), row)
                self.assert_error(BadTable(place), call, [1, 2], row)
