import itertools

from tests.helpers import (
    Case, between, chosen_families, every_lot, gap_of, gated_families, gated_row, plus,
    small_families, true_gates, true_least, true_nearest,
)
from turnlots.breaks import is_gated
from turnlots.errors import BadLot, NotInside
from turnlots.families import Family
from turnlots.gates import can_step, gate, least_lots, nearest, steps_toward


def true_steps(family, inner, lot):
    return [row for row in family.lots if between(row, inner, lot) and gap_of(row, inner) in (1, 2)]


def true_walk(family, inner, lot):
    walk = [inner]
    while True:
        steps = true_steps(family, walk[-1], lot)
        if not steps:
            return walk
        twos = [row for row in steps if gap_of(row, walk[-1]) == 2]
        walk.append(min(twos or steps))


class NearestTest(Case):
    def test_points_4_and_5_nearest_lots_gates_and_least_lots(self):
        for family in itertools.chain(small_families(), chosen_families((4, 5), 4)):
            for lot in every_lot(family.size):
                self.assert_same(nearest(family, lot), true_nearest(family, lot))
                self.assert_same(least_lots(family, lot[::-1]), true_least(family, lot))
                for inner in family.lots:
                    gates = true_gates(family, lot, inner)
                    self.assert_same(gate(family, lot, inner), gates[0] if gates else None)

    def test_edges(self):
        one = Family.of(4, (1, 2))
        self.assert_same(nearest(one, ()), [(1, 2)])
        self.assert_same(least_lots(one, [3]), [(1, 2)])
        self.assert_same(gate(one, (), (2, 1)), (1, 2))
        full = Family.everything(10)
        self.assert_same(nearest(full, (3, 1)), [(1, 3)])
        self.assert_same(least_lots(full, ()), [()])
        self.assertEqual(len(nearest(Family.sized(10, 5, 5), ())), 252)
        self.assert_same(gate(Family.of(3, (), (0, 1, 2)), (0,), (0, 1, 2)), None)
        self.assert_same(gate(Family.of(3, (), (0,), (0, 1)), (0, 2), [1, 0]), (0,))

    def test_errors_and_their_order(self):
        family = Family.of(3, (0,), (1, 2))
        for function in (nearest, least_lots):
            self.assert_error(BadLot(-1), function, family, None)
            self.assert_error(BadLot(1), function, family, (0, 3))
            self.assert_error(BadLot(2), function, family, [0, 1, 1])
        self.assert_error(BadLot(0), gate, family, (3,), None)
        self.assert_error(BadLot(-1), gate, family, (2,), None)
        self.assert_error(NotInside((0, 2)), gate, family, (2,), [2, 0])
        self.assert_error(NotInside(()), gate, family, (2,), [])

    def test_point_1_answers_are_new(self):
        family = Family.of(3, (0,), (1, 2))
        self.assert_new(nearest, family, ())
        self.assert_new(least_lots, family, ())
        self.assert_new(can_step, family, (0,), (1, 2))


class WalksTest(Case):
    def test_point_8_steps_and_straight_walks(self):
        for family in itertools.chain(small_families(), chosen_families((4, 5), 4)):
            for lot in every_lot(family.size):
                for inner in family.lots:
                    self.assert_same(can_step(family, inner, lot), true_steps(family, inner, lot))
                    walk = list(steps_toward(family, inner[::-1], list(lot)))
                    self.assert_same(walk, true_walk(family, inner, lot))

    def test_point_8_a_straight_walk_in_a_gated_family_ends_at_a_nearest_lot(self):
        for family in itertools.chain(gated_families(3), gated_families(4)[::150], gated_row(5)):
            for lot in every_lot(family.size):
                near = nearest(family, lot)
                for inner in family.lots:
                    self.assertEqual(can_step(family, inner, lot) == [], inner in near)
                    self.assertIn(list(steps_toward(family, inner, lot))[-1], near)

    def test_point_8_in_other_families_some_walk_ends_too_early(self):
        for family in itertools.chain(small_families(), chosen_families((4, 5), 4)):
            if not is_gated(family):
                stopped = [
                    (inner, lot) for lot in every_lot(family.size) for inner in family.lots
                    if can_step(family, inner, lot) == [] and inner not in nearest(family, lot)
                ]
                self.assertTrue(stopped)

    def test_point_8_two_things_go_before_one(self):
        family = Family.of(3, (), (0,), (1, 2))
        self.assert_same(list(steps_toward(family, (), (0, 1, 2))), [(), (1, 2)])
        family = Family.of(3, (), (0,), (0, 1), (0, 1, 2), (1, 2))
        self.assert_same(list(steps_toward(family, (), (0, 1, 2))), [(), (0, 1), (0, 1, 2)])
        self.assert_same(list(steps_toward(family, (), ())), [()])

    def test_errors_of_can_step_and_their_order(self):
        family = Family.of(3, (0,), (1, 2))
        self.assert_error(BadLot(1), can_step, family, (1, 1), None)
        self.assert_error(BadLot(-1), can_step, family, (1,), None)
        self.assert_error(BadLot(0), can_step, family, (1,), (9,))
        self.assert_error(NotInside((0, 1)), can_step, family, [1, 0], ())

    def test_a_walk_raises_when_its_first_lot_is_asked_for(self):
        family = Family.of(3, (0,), (1, 2))
        for inner, lot, error in (
            ((1, 1), None, BadLot(1)), ((1,), None, BadLot(-1)), ((1,), (9,), BadLot(0)),
            ([1, 0], (), NotInside((0, 1))),
        ):
            walk = steps_toward(family, inner, lot)
            self.assert_error(error, next, walk)

    def test_a_walk_reads_its_arguments_when_its_first_lot_is_asked_for(self):
        inner, lot = [1, 2], [0]
        walk = steps_toward(Family.of(3, (0,), (1, 2), (0, 2)), inner, lot)
        inner[:] = [2, 0]
        self.assert_same(next(walk), (0, 2))
        self.assert_same(next(walk), (0,))
        self.assertEqual(list(walk), [])

    def test_a_walk_can_stop_early(self):
        walk = steps_toward(Family.everything(10), (), tuple(range(10)))
        self.assert_same([next(walk), next(walk)], [(), (0, 1)])
        walk.close()
        self.assertEqual(len(plus((), (0, 1))), 2)
