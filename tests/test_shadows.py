import itertools

from tests.helpers import (
    Case, chosen_families, every_family, every_lot, gated_families, gated_row, small_families,
)
from turnlots.bothways import works_both_ways
from turnlots.breaks import find_break, is_gated
from turnlots.errors import BadNumber, NoLot, NotFull, NotGated, TooMany
from turnlots.families import Family
from turnlots.full import hole, is_full
from turnlots.shadows import cut_to, is_one_size, matroid_above, size_range
from turnlots.sides import right_side
from turnlots.small import forget_all

BROKEN = Family.of(4, (), (0, 1, 2), (3,))


def families():
    yield from small_families()
    yield from every_family(4, 1511)
    yield from gated_families(4)[::40]
    yield from chosen_families((5,), 3)


def full_gated():
    for size in (1, 2, 3):
        yield from (family for family in gated_families(size) if is_full(family))
    yield from [family for family in gated_families(4) if is_full(family)][::6]
    yield from (Family.sized(size, low, high) for size in (5, 6) for low in (0, 1, 2) for high in (2, 4))


class SizesTest(Case):
    def test_point_115_sizes(self):
        for family in families():
            sizes = sorted({len(lot) for lot in family})
            self.assert_same(size_range(family), (sizes[0], sizes[-1]))
            self.assert_same(is_one_size(family), len(sizes) == 1)
        self.assert_same(size_range(Family.everything(10)), (0, 10))
        self.assert_same([is_one_size(Family.of(1, ())), is_one_size(Family.everything(1))], [True, False])
        self.assert_same(is_one_size(Family.sized(10, 5, 5)), True)

    def test_point_112_cut(self):
        for family in families():
            for low, high in itertools.product((-1, 0, 1, 2, 3), (-2, 0, 1, 2, 10 ** 9)):
                lots = tuple(lot for lot in family if low <= len(lot) <= high)
                if lots:
                    found = cut_to(family, low, high)
                    self.assertIs(type(found), Family)
                    self.assert_same((found.size, found.lots), (family.size, lots))
                else:
                    self.assert_error(NoLot(), cut_to, family, low, high)
        self.assertEqual(cut_to(Family.everything(10), 5, 5), Family.sized(10, 5, 5))

    def test_numbers_that_are_wrong(self):
        for number in (None, True, "1", 1.0, [1]):
            self.assert_error(BadNumber("low"), cut_to, BROKEN, number, None)
            self.assert_error(BadNumber("high"), cut_to, BROKEN, 9, number)
            self.assert_error(BadNumber("high"), cut_to, BROKEN, 0, number)

    def test_point_115_full_gated_families(self):
        for family in full_gated():
            self.assertTrue(works_both_ways(family))
            least, greatest = size_range(family)
            self.assertEqual({len(lot) for lot in family}, set(range(least, greatest + 1)))
            for low, high in itertools.combinations_with_replacement(range(least, greatest + 1), 2):
                cut = cut_to(family, low, high)
                self.assertTrue(is_full(cut) and is_gated(cut))


class MatroidAboveTest(Case):
    def test_point_116_the_matroid_above(self):
        for family in full_gated():
            sizes = [len(lot) for lot in family]
            new = max(sizes) - min(sizes)
            if family.size + new > 10:
                self.assert_error(TooMany("things"), matroid_above, family)
                continue
            lots = sorted(
                (*lot, *(family.size + z for z in more)) for lot in family for more in every_lot(new)
                if len(lot) + len(more) == max(sizes)
            )
            above = matroid_above(family)
            self.assertIs(type(above), Family)
            self.assert_same((above.size, list(above)), (family.size + new, lots))
            self.assertTrue(is_gated(above) and is_one_size(above))
            dropped = tuple(range(family.size, family.size + new))
            self.assertEqual(forget_all(above, dropped), family)

    def test_point_116_what_is_left_of_one_size(self):
        rows = [family for family in [*gated_families(4), *gated_row(5), *gated_row(6)] if is_one_size(family)]
        self.assertGreater(len(rows), 20)
        for family in rows:
            for things in every_lot(family.size)[1::3]:
                if len(things) < family.size:
                    left = forget_all(family, things)
                    self.assertTrue(is_full(left) and is_gated(left))

    def test_point_116_turned_by_a_right_lot(self):
        for family in [*gated_families(3), *gated_families(4)[::70]]:
            side = right_side(family)
            turns = [lot for lot in every_lot(family.size) if is_full(family ^ lot)]
            self.assertEqual(side is None, turns == [])
            if side is not None:
                above = matroid_above(family ^ side)
                self.assertTrue(is_gated(above) and is_one_size(above))
                self.assertEqual(forget_all(above, range_lot(family.size, above.size)), family ^ side)

    def test_sizes_1_and_10(self):
        self.assertEqual(matroid_above(Family.of(1, (0,))), Family.of(1, (0,)))
        self.assertEqual(matroid_above(Family.everything(1)), Family.of(2, (0,), (1,)))
        ten = Family.sized(10, 5, 5)
        self.assertEqual(matroid_above(ten), ten)
        self.assertEqual(matroid_above(Family.everything(5)), Family.sized(10, 5, 5))
        self.assertEqual(matroid_above(Family.sized(9, 4, 5)), Family.sized(10, 5, 5))

    def test_errors_and_their_order(self):
        self.assert_error(TooMany("things"), matroid_above, Family.of(6, (), (0, 1, 2, 3, 4)))
        self.assert_error(TooMany("things"), matroid_above, Family.sized(10, 4, 5))
        for family in families():
            sizes = [len(lot) for lot in family]
            if family.size + max(sizes) - min(sizes) <= 10:
                if find_break(family) is not None:
                    self.assert_error(NotGated(*find_break(family)), matroid_above, family)
                elif hole(family) is not None:
                    self.assert_error(NotFull(hole(family)), matroid_above, family)
        self.assert_error(NotGated((), (0, 1, 2), 0), matroid_above, BROKEN)
        self.assert_error(NotFull((0,)), matroid_above, Family.of(3, (), (0, 1), (0, 2), (1, 2)))


def range_lot(low, high):
    return tuple(range(low, high))
