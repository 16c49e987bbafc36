import itertools

from tests.helpers import (
    Case, all_breaks, chosen_families, every_lot, gated_families, plus, small_families,
    true_depth, true_gates, true_least, true_nearest,
)
from turnlots.breaks import is_gated
from turnlots.errors import BadFamily, BadLot, BadNumber, OtherSize, TooMany
from turnlots.families import Family
from turnlots.met import Pair

ALL = tuple(range(10))


class MakingTest(Case):
    def test_point_3_size_and_lots(self):
        family = Family(4, [[2, 1], (), (3, 0, 1), (0,)])
        self.assert_same(family.size, 4)
        self.assert_same(family.lots, ((), (0,), (0, 1, 3), (1, 2)))
        self.assert_same(Family(1, ((),)).lots, ((),))
        self.assert_same(Family(10, (ALL[::-1],)).lots, (ALL,))

    def test_of_everything_sized_and_count_of(self):
        self.assertEqual(Family.of(3, (), [2, 1]), Family(3, [(1, 2), ()]))
        self.assert_same(Family.everything(2).lots, ((), (0,), (0, 1), (1,)))
        self.assertEqual(len(Family.everything(10)), 1024)
        self.assert_same(Family.sized(3, 1, 2).lots, ((0,), (0, 1), (0, 2), (1,), (1, 2), (2,)))
        self.assert_same(Family.sized(3, -10 ** 30, 0).lots, ((),))
        self.assertEqual(Family.sized(3, 3, 10 ** 30), Family.of(3, (0, 1, 2)))
        self.assert_same([Family.count_of(size) for size in (1, 2, 10)], [2, 4, 1024])

    def test_wrong_sizes(self):
        for size in (0, 11, -1, True, None, "3", 3.0, (3,)):
            self.assert_error(BadFamily(-1), Family, size, "no lots")
            self.assert_error(BadFamily(-1), Family.of, size)
            self.assert_error(BadFamily(-1), Family.everything, size)
            self.assert_error(BadFamily(-1), Family.sized, size, None, None)
            self.assert_error(BadFamily(-1), Family.count_of, size)

    def test_wrong_lots_come_after_the_size(self):
        for lots in (None, "", {}, {(): True}, 3, Family.of(3, ())):
            self.assert_error(BadFamily(-2), Family, 3, lots)
        for lots in ((), []):
            self.assert_error(BadFamily(-3), Family, 3, lots)
        self.assert_error(BadFamily(-3), Family.of, 3)
        for place, lots in (
            (0, [None]), (0, [(3,), (3,)]), (1, [(), (0, 0)]), (1, [(), ()]), (2, [(0, 1), (), [1, 0]]),
            (1, [(1,), (True,)]), (2, [(), (0,), "0"]), (1, [(0, 1), [1, 0], (9,)]), (1, [(), (9,), ()]),
        ):
            self.assert_error(BadFamily(place), Family, 3, lots)
            self.assert_error(BadFamily(place), Family.of, 3, *lots)

    def test_wrong_bounds_of_sized(self):
        self.assert_error(BadNumber("low"), Family.sized, 3, True, "2")
        self.assert_error(BadNumber("low"), Family.sized, 3, None, 2)
        self.assert_error(BadNumber("high"), Family.sized, 3, 2, False)
        self.assert_error(BadNumber("high"), Family.sized, 3, 9, 2.0)
        self.assert_error(BadFamily(-3), Family.sized, 3, 2, 1)
        self.assert_error(BadFamily(-3), Family.sized, 3, 4, 9)
        self.assert_error(BadFamily(-3), Family.sized, 3, -2, -1)

    def test_point_1_later_changes_to_what_was_passed_have_no_effect(self):
        lots = [[1, 0], [2]]
        family = Family(3, lots)
        self.assertEqual(lots, [[1, 0], [2]])
        lots[0].append(2)
        lots.append([])
        self.assert_same(family.lots, ((0, 1), (2,)))
        self.assertIs([0, 1] in family, True)
        self.assertIs(() in family, False)


class AskingTest(Case):
    def test_length_iteration_and_lots_inside(self):
        family = Family(4, [[2, 1], (), (3, 0, 1)])
        self.assertEqual(len(family), 3)
        self.assertEqual(list(family), [(), (0, 1, 3), (1, 2)])
        self.assertEqual([lot for lot in family], list(family.lots))
        for lot in ((), [], (1, 2), [2, 1], (3, 1, 0)):
            self.assertIs(lot in family, True)
        for lot in ((0,), (1, 2, 2), (1,), "", None, 1, {}, (1, 2.0), (1, "2"), (7,), (-1,), [[1, 2]], family):
            self.assertIs(lot in family, False)
        self.assertIs((True,) in Family.of(2, (1,)), False)

    def test_point_3_equal_families(self):
        family = Family.of(3, (0,), (1, 2))
        self.assertIs(family == Family(3, [[2, 1], [0]]), True)
        self.assertIs(family != Family(3, [[2, 1], [0]]), False)
        for other in (Family.of(4, (0,), (1, 2)), Family.of(3, (0,)), ((0,), (1, 2)), None, 3, [family]):
            self.assertIs(family == other, False)
            self.assertIs(family != other, True)

    def test_point_3_fixed_and_loose_things(self):
        family = Family.of(5, (0, 3), (3, 1), (3, 0, 1))
        self.assert_same(family.fixed_in(), (3,))
        self.assert_same(family.fixed_out(), (2, 4))
        self.assert_same(family.loose(), (0, 1))
        self.assert_same(Family.of(2, (1,)).loose(), ())
        for family in small_families():
            for thing in range(family.size):
                seen = {thing in lot for lot in family.lots}
                self.assertEqual(thing in family.fixed_in(), seen == {True})
                self.assertEqual(thing in family.fixed_out(), seen == {False})
                self.assertEqual(thing in family.loose(), seen == {True, False})

    def test_has(self):
        family = Family.of(3, (0,), (1, 2))
        self.assertIs(family.has([2, 1]), True)
        self.assertIs(family.has(()), False)
        self.assert_error(BadLot(1), family.has, (0, 3))
        self.assert_error(BadLot(-1), family.has, "0")

    def test_point_5_depth(self):
        for family in itertools.chain(small_families(), chosen_families()):
            for lot in every_lot(family.size):
                depth = family.depth(lot)
                self.assert_same(depth, true_depth(family, lot))
                self.assertEqual(depth == 0, family.has(lot))
                for thing in range(family.size):
                    self.assertLessEqual(abs(depth - family.depth(plus(lot, (thing,)))), 1)
        self.assertEqual(Family.of(10, ()).depth(ALL), 10)
        self.assert_error(BadLot(0), Family.of(2, ()).depth, (2, 0))
        self.assert_error(BadLot(-1), Family.of(2, ()).depth, None)


class TurnedJoinedTest(Case):
    def test_point_11_turned(self):
        for family in small_families():
            for lot in every_lot(family.size):
                turned = family ^ lot[::-1]
                self.assertEqual(turned.lots, tuple(sorted(plus(row, lot) for row in family.lots)))
                self.assertEqual(turned.size, family.size)
                self.assertEqual(turned ^ list(lot), family)
            self.assertEqual(family ^ (), family)
            self.assertEqual(family.contrary(), family ^ tuple(range(family.size)))

    def test_point_11_turning_twice_is_turning_by_the_sum(self):
        for family in chosen_families(each=2):
            lots = every_lot(family.size)
            for one, other in zip(lots[::3], lots[::-5]):
                self.assertEqual(family ^ one ^ other, family ^ plus(one, other))

    def test_point_11_what_is_turned_with_a_family(self):
        for family in [*itertools.islice(small_families(), 0, None, 6), *chosen_families((4,), 2)]:
            for turn in every_lot(family.size)[1::2]:
                turned = family ^ turn
                self.assertEqual(is_gated(turned), is_gated(family))
                for lot in every_lot(family.size):
                    there = plus(lot, turn)
                    self.assertEqual(turned.depth(there), family.depth(lot))
                    for find in (true_nearest, true_least):
                        moved = sorted(plus(row, turn) for row in find(family, lot))
                        self.assertEqual(find(turned, there), moved)
                    for row in family.lots:
                        gates = true_gates(turned, there, plus(row, turn))
                        self.assertEqual(bool(gates), bool(true_gates(family, lot, row)))

    def test_point_11_join(self):
        one, other = Family.of(3, (), (0, 1)), Family.of(3, (0,), (1,), (0, 1, 2))
        self.assert_same((one + other).lots, ((0,), (0, 1, 2), (1,), (2,)))
        for one, other in itertools.product(itertools.islice(small_families(), 18, None, 17), repeat=2):
            sums = {plus(row, lot) for row in one.lots for lot in other.lots}
            self.assertEqual(one + other, Family(3, sorted(sums)))

    def test_point_11_the_join_of_gated_families_is_gated(self):
        families = [*gated_families(3)[::6], *gated_families(2)]
        for one, other in itertools.product(families, repeat=2):
            if one.size == other.size:
                self.assertTrue(is_gated(one + other))

    def test_point_11_side_by_side(self):
        beside = Family.of(2, (1,), ()) * Family.of(3, (2, 0), (1,))
        self.assertEqual(beside.size, 5)
        self.assert_same(beside.lots, ((1, 2, 4), (1, 3), (2, 4), (3,)))
        families = [*small_families()][::9]
        for one, other in itertools.product(families, repeat=2):
            if one.size + other.size <= 4:
                self.assertEqual(is_gated(one * other), is_gated(one) and is_gated(other))
        self.assertEqual(Family.everything(5) * Family.everything(5), Family.everything(10))

    def test_point_11_families_that_are_gated(self):
        for size in range(1, 11):
            self.assertTrue(is_gated(Family.everything(size)))
        for size in range(1, 7):
            for low in range(size + 1):
                for high in range(low, size + 1):
                    self.assertTrue(is_gated(Family.sized(size, low, high)))
        self.assertFalse(all_breaks(Family.sized(4, 1, 2)))

    def test_errors_of_the_operators(self):
        family = Family.of(6, ())
        for lot, place in (((6,), 0), ("0", -1), ((1, 1), 1), (None, -1)):
            self.assert_error(BadLot(place), lambda wrong: family ^ wrong, lot)
        self.assert_error(OtherSize(5), lambda: family + Family.of(5, ()))
        self.assert_error(TooMany("things"), lambda: family * Family.of(5, ()))
        self.assertEqual((family * Family.of(4, (3,))).lots, ((9,),))

    def test_point_1_families_stay_as_they_are(self):
        one, other = Family.of(3, (), (0, 1)), Family.of(3, (0,), (1, 2))
        for _ in range(2):
            self.assertEqual((one + other).lots, ((0,), (0, 2), (1,), (1, 2)))
            self.assertEqual((one ^ [1]).lots, ((0,), (1,)))
            self.assertEqual((one * one).lots, ((), (0, 1), (0, 1, 3, 4), (3, 4)))
        self.assertEqual([one, other], [Family.of(3, (), (0, 1)), Family.of(3, (0,), (1, 2))])

    def test_a_family_is_no_pair(self):
        self.assertIs(Family.of(1, ()) == Pair((), ()), False)
