import itertools

from tests.helpers import Case, chosen_families, every_lot, plus, true_nearest
from tests.test_glue import needed_error
from tests.whole import (
    cut_lots, larger_whole, not_whole_ones, true_glue, true_is_glued, whole_families, whole_of,
)
from turnlots.cuts import crosses, far_cut, glued_lots, is_glued, mixed_lot, strong_lots, uneven_lot
from turnlots.errors import BadLot, BadNumber, NotGlued
from turnlots.even import web_at
from turnlots.families import Family
from turnlots.glue import cut_off


def linked(family, inner, x, y):
    return family.has(plus(inner, (x, y)))


def rest_of(family, lot):
    return tuple(x for x in range(family.size) if x not in lot)


def true_uneven(family, lot):
    rest = rest_of(family, lot)
    return next((
        (inner, x, y, u, v) for inner in family.lots for x in lot for y in rest for u in lot for v in rest
        if linked(family, inner, x, v) and linked(family, inner, u, y) and not linked(family, inner, x, y)
    ), None)


def true_far(family, lot):
    for outer in every_lot(family.size):
        for one, other in itertools.product(true_nearest(family, outer), repeat=2):
            numbers = [len(set(plus(outer, row)) & set(lot)) for row in (one, other)]
            if abs(numbers[0] - numbers[1]) >= 2:
                return outer, one, other
    return None


def true_mixed(family, lot):
    for one, other in itertools.product(family.lots, family.lots):
        alike = (len(set(one) & set(lot)) - len(set(other) & set(lot))) % 2 == 0
        if alike and not family.has(sorted((set(one) & set(lot)) | (set(other) - set(lot)))):
            return one, other
    return None


def all_glued(family):
    return [lot for lot in cut_lots(family.size) if true_is_glued(family, lot)]


def true_crosses(one, other, size):
    one, other = set(one), set(other)
    return all((one & other, one - other, other - one, set(range(size)) - one - other))


class GluedTest(Case):
    def test_point_124_three_tests_say_the_same_and_show_why(self):
        seen = {True: 0, False: 0}
        for family in [*whole_of(4), *larger_whole()[::3]]:
            for lot in cut_lots(family.size):
                told, mixed = list(lot)[::-1], true_mixed(family, lot)
                self.assert_same(is_glued(family, told), mixed is None)
                self.assert_same(mixed_lot(family, told), mixed)
                uneven, far = true_uneven(family, lot), true_far(family, lot)
                self.assertEqual([uneven is None, far is None], [mixed is None] * 2)
                self.assert_same(uneven_lot(family, told), uneven)
                self.assert_same(far_cut(family, told), far)
                seen[mixed is None] += 1
        self.assertGreater(min(seen.values()), 100)

    def test_point_124_the_same_as_cutting_off(self):
        for family in whole_families():
            for lot in cut_lots(family.size):
                self.assertEqual(is_glued(family, lot), is_glued(family, rest_of(family, lot)))
                if is_glued(family, lot):
                    self.assertIsNone(uneven_lot(family, lot))
                    cut_off(family, lot)
                else:
                    self.assert_error(NotGlued(lot), cut_off, family, lot)

    def test_point_124_all_or_nothing_at_one_lot_is_not_enough(self):
        seen = 0
        for family in larger_whole():
            for lot in cut_lots(family.size):
                if not is_glued(family, lot):
                    rest = rest_of(family, lot)
                    rows = [
                        [tuple(y for y in rest if (x, y) in web) for x in lot]
                        for web in (web_at(family, inner) for inner in family.lots)
                    ]
                    seen += any(len({row for row in at if row}) == 1 for at in rows)
        self.assertGreater(seen, 10)

    def test_points_124_125_all_glued_and_strong_lots_by_counting(self):
        strong_seen = 0
        for family in whole_families():
            glued = all_glued(family)
            strong = [
                lot for lot in glued if not any(true_crosses(lot, other, family.size) for other in glued)
            ]
            self.assert_same(glued_lots(family), [lot for lot in glued if 0 in lot])
            self.assert_same(strong_lots(family), [lot for lot in strong if 0 in lot])
            for lot in strong:
                self.assertIn(rest_of(family, lot), strong)
            strong_seen += len(strong)
        self.assertGreater(strong_seen, 100)

    def test_point_125_glued_lots_that_cross(self):
        seen = 0
        for family in larger_whole():
            glued = all_glued(family)
            for one, other in itertools.combinations(glued, 2):
                if true_crosses(one, other, family.size):
                    seen += 1
                    self.assertIn(plus(one, other), glued)
                    both = set(one) & set(other)
                    for part in (both, set(one) - both, set(other) - both, set(range(family.size)) - set(one + other)):
                        self.assertTrue(len(part) < 2 or tuple(sorted(part)) in glued)
        self.assertGreater(seen, 100)

    def test_sizes_below_4_and_size_10(self):
        for size in (1, 2, 3):
            for family in whole_of(size):
                self.assert_same([glued_lots(family), strong_lots(family)], [[], []])
                for lot in every_lot(size):
                    for call in (is_glued, uneven_lot, far_cut, mixed_lot):
                        self.assert_error(BadLot(-1), call, family, lot)
        ten = Family(10, [lot for lot in every_lot(10) if len(lot) % 2])
        self.assertEqual(len(glued_lots(ten)), 2 ** 9 - 10 - 1)
        self.assertEqual(strong_lots(ten), [])
        six = Family.sized(6, 3, 3)
        glue = true_glue(six, 5, six, 0)
        self.assert_same([glued_lots(glue), strong_lots(glue)], [[(0, 1, 2, 3, 4)]] * 2)
        self.assert_same(is_glued(glue, (9, 8, 7, 6, 5)), True)
        self.assert_same([far_cut(glue, (5, 6, 7, 8, 9)), mixed_lot(glue, (5, 6, 7, 8, 9))], [None, None])

    def test_point_1_answers_are_new(self):
        self.assert_new(glued_lots, Family.of(4, (), (0, 2), (0, 3), (1, 2), (1, 3)))
        self.assert_new(strong_lots, Family.of(4, (), (0, 2), (0, 3), (1, 2), (1, 3)))

    def test_errors_and_their_order(self):
        for family in [*not_whole_ones(), *chosen_families((4, 5)), Family.sized(4, 2, 2)]:
            error = needed_error(family)
            for call in (is_glued, uneven_lot, far_cut, mixed_lot):
                for lot, place in (
                    (None, -1), ((0, family.size), 1), ((1, 1), 1), ([True], 0), ((), -1), ((0,), -1),
                    (tuple(range(1, family.size)), -1), (tuple(range(family.size)), -1),
                ):
                    self.assert_error(BadLot(place), call, family, lot)
                if error is not None:
                    self.assert_error(error, call, family, (1, 2))
            if error is not None:
                self.assert_error(error, glued_lots, family)
                self.assert_error(error, strong_lots, family)
        small = Family.of(2, (), (0,))
        self.assert_error(needed_error(small), glued_lots, small)
        self.assert_error(needed_error(Family.of(3, (0,), (1,))), strong_lots, Family.of(3, (0,), (1,)))


class CrossesTest(Case):
    def test_point_125_lots_that_cross(self):
        for size in range(6):
            lots = every_lot(size)
            for one, other in itertools.product(lots, lots):
                told = true_crosses(one, other, size)
                self.assert_same(crosses(list(one)[::-1], other, size), told)
        self.assert_same(crosses((0, 9), (9, 8), 10), True)
        self.assert_same(crosses((), (), 0), False)

    def test_errors_and_their_order(self):
        for size in (-1, 11, True, None, "3"):
            self.assert_error(BadNumber("size"), crosses, None, None, size)
        for one, other, place in (
            (None, None, -1), ((0, 3), None, 1), ((0, 1), (1, 1), 1), ((), [True], 0), ((0,), "12", -1),
        ):
            self.assert_error(BadLot(place), crosses, one, other, 3)
