import itertools

from tests.helpers import (
    Case, chosen_families, every_family, every_lot, gated_families, gated_row, small_families,
    true_depth,
)
from tests.test_met import true_pairs
from turnlots.breaks import is_gated
from turnlots.errors import BadLot, BadNumber, BadPair, BadThing, NoLot, TooMany
from turnlots.families import Family
from turnlots.small import (
    forget, forget_all, grown, in_of, out_of, renumbered, small_table,
)


def taken_off(lot, dropped):
    """The lot without the dropped things, the others renumbered."""
    return tuple(x - len([y for y in dropped if y < x]) for x in lot if x not in dropped)


def true_small(family, inside, out):
    """The lots of a small table, None if there is none."""
    lots = [lot for lot in family.lots if set(inside) <= set(lot) and not set(out) & set(lot)]
    return sorted(taken_off(lot, inside + out) for lot in lots)


def families():
    yield from small_families()
    yield from every_family(4, 2503)
    yield from chosen_families((5,), 2)


class SmallTablesTest(Case):
    def test_point_46_out_in_and_forget(self):
        for family in families():
            for x in range(family.size) if family.size > 1 else ():
                self.check_small(family, (), (x,), out_of, x)
                self.check_small(family, (x,), (), in_of, x)
                lots = sorted({taken_off(lot, (x,)) for lot in family.lots})
                self.assertEqual(forget(family, x), Family(family.size - 1, lots))

    def check_small(self, family, held, left, call, *args, **more):
        lots = true_small(family, held, left)
        if lots:
            expected = Family(family.size - len(held + left), lots)
            self.assertEqual(call(family, *args, **more), expected)
        else:
            self.assert_error(NoLot(), call, family, *args, **more)

    def test_point_46_small_tables_told_by_a_pair(self):
        for family in families():
            for inside, out in true_pairs(family.size):
                if len(inside + out) < family.size:
                    more = {"inside": list(inside)[::-1], "out": out}
                    self.check_small(family, inside, out, small_table, **more)
            self.assertEqual(small_table(family), family)

    def test_point_46_forget_all(self):
        for family in families():
            self.assertEqual(forget_all(family, []), family)
            for things in every_lot(family.size):
                if len(things) < family.size:
                    lots = sorted({taken_off(lot, things) for lot in family.lots})
                    expected = Family(family.size - len(things), lots)
                    self.assertEqual(forget_all(family, list(things)[::-1]), expected)

    def test_point_46_renumbered(self):
        self.assert_same(renumbered(7, [2, 9, 0, 7000]), 5)
        self.assert_same(renumbered(0, ()), 0)
        self.assert_same(renumbered(10 ** 30, (10 ** 30 - 1,)), 10 ** 30 - 1)
        for x, dropped in itertools.product(range(4), every_lot(4)):
            if x not in dropped:
                self.assert_same(renumbered(x, dropped), taken_off((x,), dropped)[0])

    def test_point_46_grown(self):
        self.assert_same(grown(Family.of(2, (0,), (1,)), 1).lots, ((0,), (0, 1), (1, 2), (2,)))
        for family in [*small_families(), *chosen_families((4,), 2)]:
            for t in range(family.size + 1):
                moved = [tuple(x + (x >= t) for x in lot) for lot in family.lots]
                lots = moved + [tuple(sorted(lot + (t,))) for lot in moved]
                self.assertEqual(grown(family, t), Family(family.size + 1, lots))

    def test_point_1_a_family_stays_as_it_is(self):
        family = Family.of(3, (0,), (1, 2), (0, 1, 2))
        for call in (out_of, in_of, forget, grown):
            call(family, 1)
        small_table(family, inside=(1,), out=[0])
        forget_all(family, (0, 1))
        self.assertEqual(family, Family.of(3, (0,), (1, 2), (0, 1, 2)))
        self.assertIsInstance(small_table(family), Family)


class RowsOfTablesTest(Case):
    def test_point_48_things_are_taken_in_any_order(self):
        calls = (out_of, in_of, forget)
        for family in [*every_family(3, 5), *chosen_families((4, 5), 2)]:
            for (x, y), one, two in itertools.product(itertools.permutations(range(3), 2), calls, calls):
                ways = [self.after(family, one, x, two, y), self.after(family, two, y, one, x)]
                self.assertEqual(*ways)

    def after(self, family, one, x, two, y):
        try:
            return two(one(family, x), renumbered(y, (x,)))
        except NoLot:
            return None

    def test_point_48_one_after_the_other_is_the_small_table_at_once(self):
        for family in [*every_family(3, 3), *chosen_families((4, 5), 2)]:
            for x, y in itertools.permutations(range(3), 2):
                for inside, out, one, two in (
                    ((x, y), (), in_of, in_of), ((x,), (y,), in_of, out_of), ((), (x, y), out_of, out_of),
                ):
                    found = self.after(family, one, x, two, y)
                    if found is None:
                        self.assert_error(NoLot(), small_table, family, inside=inside, out=out)
                    else:
                        self.assertEqual(small_table(family, inside=inside, out=out), found)
                self.assertEqual(forget(forget(family, x), renumbered(y, (x,))), forget_all(family, (x, y)))

    def test_point_48_small_forgotten_and_grown_families_are_gated(self):
        for family in [*gated_families(3), *gated_families(4)[::80], *gated_row(5)]:
            for inside, out in true_pairs(family.size):
                if len(inside + out) < family.size and true_small(family, inside, out):
                    self.assertTrue(is_gated(small_table(family, inside=inside, out=out)))
            for x in range(family.size):
                self.assertTrue(is_gated(forget(family, x)))
                self.assertTrue(is_gated(grown(family, x)))

    def test_point_48_out_and_in_of_a_grown_family(self):
        for family in [*small_families(), *chosen_families((4, 5), 3), Family.sized(9, 2, 5)]:
            for t in range(family.size + 1):
                self.assertEqual(out_of(grown(family, t), t), family)
                self.assertEqual(in_of(grown(family, t), t), family)

    def test_point_49_depths_in_small_tables(self):
        for family in families():
            for x in range(family.size) if family.size > 1 else ():
                self.check_depths(family, x)

    def check_depths(self, family, x):
        rest = [lot for lot in every_lot(family.size) if x not in lot]
        forgot = forget(family, x)
        for lot in rest:
            here = true_depth(family, lot), true_depth(family, tuple(sorted(lot + (x,))))
            there = taken_off(lot, (x,))
            self.assertEqual(forgot.depth(there), min(here))
            if x not in family.fixed_in():
                self.assertGreaterEqual(out_of(family, x).depth(there), here[0])
            if x not in family.fixed_out():
                self.assertGreaterEqual(in_of(family, x).depth(there), here[1])

    def test_point_49_gated_exactly_if_no_depth_is_greater_in_a_small_table(self):
        for family in [*small_families(), *every_family(4, 1511)]:
            small = [
                small_table(family, inside=inside, out=out) for inside, out in true_pairs(family.size)
                if len(inside + out) < family.size - 1 and true_small(family, inside, out)
            ]
            self.assertEqual(all(self.without_loss(table) for table in small), is_gated(family))

    def without_loss(self, table):
        for x in table.loose():
            for lot in every_lot(table.size):
                part = in_of(table, x) if x in lot else out_of(table, x)
                if part.depth(taken_off(lot, (x,))) != true_depth(table, lot):
                    return False
        return True


class ErrorsTest(Case):
    def test_out_in_and_forget(self):
        one, two = Family.of(1, (0,)), Family.of(2, (0,))
        for call in (out_of, in_of, forget):
            for thing in (-1, True, None, "0", 0.0, 2):
                self.assert_error(BadThing(thing), call, two, thing)
            for thing in (1, False, None):
                self.assert_error(BadThing(thing), call, one, thing)
            self.assert_error(BadNumber("size"), call, one, 0)
        # nothing is left, and there is no such lot: the size comes first
        self.assert_error(BadNumber("size"), out_of, one, 0)
        self.assert_error(NoLot(), out_of, two, 0)
        self.assert_error(NoLot(), in_of, two, 1)

    def test_small_table(self):
        family = Family.of(3, (0,))
        for inside, out, error in (
            (None, None, BadLot(-1)), ((0, 3), None, BadLot(1)), ((0,), None, BadLot(-1)),
            ((0,), (1, 1), BadLot(1)), ((2, 1, 0), (2, 1), BadPair(1)), ((0, 1), (2,), BadNumber("size")),
            ((), (2, 1, 0), BadNumber("size")), ((2,), (1,), NoLot()), ((), (0,), NoLot()),
        ):
            self.assert_error(error, small_table, family, inside=inside, out=out)
        self.assert_error(BadLot(0), small_table, family, out=(7,))
        with self.assertRaises(TypeError):
            small_table(family, (), ())

    def test_forget_all(self):
        family = Family.of(3, (0,))
        for things, error in (
            (None, BadLot(-1)), ((0, 3), BadLot(1)), ((1, 0, 1), BadLot(2)), ((2, 0, 1), BadNumber("size")),
        ):
            self.assert_error(error, forget_all, family, things)
        self.assert_error(BadNumber("size"), forget_all, Family.of(1, ()), (0,))

    def test_renumbered(self):
        for thing, dropped, error in (
            (-1, None, BadThing(-1)), (True, None, BadThing(True)), (None, (), BadThing(None)),
            (2, None, BadLot(-1)), (2, (2, 2), BadLot(1)), (2, (0, -1), BadLot(1)), (2, [5, 2], BadThing(2)),
        ):
            self.assert_error(error, renumbered, thing, dropped)

    def test_grown(self):
        ten = Family.of(10, ())
        for thing in (0, 10, 11, None):
            self.assert_error(TooMany("things"), grown, ten, thing)
        for thing in (-1, 4, True, None, "1", 1.0):
            self.assert_error(BadThing(thing), grown, Family.of(3, ()), thing)
        self.assertEqual(grown(Family.of(9, ()), 9), Family.of(10, (), (9,)))
