import itertools

from tests.helpers import Case, chosen_families, every_lot, gated_families, plus, small_families
from tests.test_even import even_gated, true_is_even, true_parts, true_rings
from tests.test_pairing import true_pairings
from turnlots.breaks import find_break, is_gated
from turnlots.errors import BadLot, BadThing, NotEven, NotGated, NotInside
from turnlots.even import Web, unlike_parity, web_at
from turnlots.families import Family
from turnlots.onelot import (
    fullest_at, is_turned_matroid, parts_at, step_web, told_by_web, turned_sizes, turning_at,
)
from turnlots.pairing import pairing_count
from turnlots.partings import finest
from turnlots.sides import right_sides

NOT_GATED = Family.of(4, (), (0, 1, 2), (3,))
UNEVEN = Family.of(3, (), (0,), (0, 1))
GATED_ONLY = Family.everything(3)


def larger():
    yield Family.sized(10, 1, 1)
    yield Family.sized(7, 3, 3) ^ (0, 2, 5)
    yield Family(6, [lot for lot in every_lot(6) if len(lot) % 2 == 0])


class OneLotTest(Case):
    def test_point_98_the_parts(self):
        for family in [*even_gated(), *larger()]:
            for lot in family.lots[:8]:
                parts = parts_at(family, list(lot)[::-1])
                self.assert_same(parts, true_parts(web_at(family, lot)))
                self.assert_same(parts, finest(family))

    def test_point_99_turned_matroids(self):
        seen = {True: 0, False: 0}
        for family in even_gated():
            turns = [lot for lot in every_lot(family.size) if len({len(row) for row in family ^ lot}) == 1]
            self.assert_same(is_turned_matroid(family), turns != [])
            self.assertEqual(turns, right_sides(family))
            for lot in every_lot(family.size):
                self.assertEqual(len(turned_sizes(family, lot)) == 1, lot in turns)
            seen[turns != []] += 1
        self.assertGreater(min(seen.values()), 10)

    def test_point_99_where_to_turn(self):
        for family in even_gated():
            for lot in family.lots[:6]:
                web = web_at(family, lot)
                sides = [
                    side for side in every_lot(family.size) if all((x in side) != (y in side) for x, y in web)
                ]
                expected = plus(lot, sides[0]) if sides else None
                self.assert_same(turning_at(family, list(lot)[::-1]), expected)
                self.assertEqual(expected is None, right_sides(family) == [])
                if expected is not None:
                    self.assertIn(expected, right_sides(family))

    def test_point_99_turned_sizes(self):
        for family in [*small_families(), *chosen_families((4, 5))]:
            for lot in every_lot(family.size)[::3]:
                sizes = tuple(sorted({len(plus(lot, row)) for row in family}))
                self.assert_same(turned_sizes(family, list(lot)[::-1]), sizes)
        self.assert_same(turned_sizes(Family.everything(10), (9,)), tuple(range(11)))
        self.assert_same(turned_sizes(Family.of(1, ()), [0]), (1,))
        self.assert_same(turned_sizes(NOT_GATED, (3,)), (0, 1, 4))
        for lot, place in ((None, -1), ((0, 4), 1), ((1, 1), 1), ((True,), 0)):
            self.assert_error(BadLot(place), turned_sizes, NOT_GATED, lot)

    def test_point_100_one_step(self):
        for family in even_gated():
            for lot in family.lots[:4]:
                web = web_at(family, lot)
                for x, y in web.links:
                    found = step_web(family, list(lot)[::-1], y, x)
                    self.assertIs(type(found), Web)
                    self.assert_same((found.size, found.links), (family.size, self.stepped(family, lot, web, x, y)))

    def stepped(self, family, lot, web, x, y):
        links = {(x, y)}
        rest = [a for a in range(family.size) if a not in (x, y)]
        for a in rest:
            for one, other in ((x, y), (y, x)):
                if (a, other) in web:
                    links.add(tuple(sorted((a, one))))
        for a, b in itertools.combinations(rest, 2):
            four = tuple(sorted((a, b, x, y)))
            linked = family.has(plus(lot, four))
            count = pairing_count(web, four)
            self.assertTrue(linked if count == 1 else count > 0 or not linked)
            if linked:
                links.add((a, b))
        return tuple(sorted(links))

    def test_point_101_the_fullest_family(self):
        seen = set()
        for family in even_gated():
            for lot in family.lots[:4]:
                web = web_at(family, lot)
                paired = [things for things in every_lot(family.size) if true_pairings(web, things)]
                full = fullest_at(family, list(lot)[::-1])
                self.assertIs(type(full), Family)
                self.assert_same((full.size, list(full)), (family.size, sorted(plus(lot, things) for things in paired)))
                self.assertTrue(is_gated(full) and true_is_even(full))
                self.assertTrue(set(family.lots) <= set(full.lots))
                self.assertEqual(web_at(full, lot), web)
                self.assertEqual(full == family, all(family.has(plus(lot, things)) for things in paired))
                seen.add(full == family)
        self.assertEqual(seen, {True, False})

    def test_point_101_told_by_one_web(self):
        seen = {True: 0, False: 0}
        for family in even_gated():
            web = web_at(family, family.lots[0])
            expected = not any(len(ring) % 2 == 0 for ring in true_rings(web))
            self.assert_same(told_by_web(family), expected)
            seen[expected] += 1
        self.assertGreater(min(seen.values()), 10)

    def test_point_101_no_even_ring_and_no_other_family(self):
        families = [family for family in gated_families(4) if true_is_even(family)]
        for family in families:
            for lot in family:
                web = web_at(family, lot)
                alike = [other for other in families if other.has(lot) and web_at(other, lot) == web]
                self.assertEqual(len(alike) == 1, web.even_ring_in() is None)
                most = max(len(other) for other in alike)
                self.assertEqual([other for other in alike if len(other) == most], [fullest_at(family, lot)])

    def test_sizes_1_and_10(self):
        one = Family.of(1, (0,))
        self.assert_same(parts_at(one, (0,)), ((0,),))
        self.assert_same([is_turned_matroid(one), told_by_web(one)], [True, True])
        self.assert_same(turning_at(one, [0]), (0,))
        self.assertEqual(fullest_at(one, (0,)), one)
        self.assert_error(BadThing(0), step_web, one, (0,), 0, 0)
        ten = Family(10, [lot for lot in every_lot(10) if len(lot) % 2 == 0])
        self.assert_same(parts_at(ten, ()), (tuple(range(10)),))
        self.assert_same([is_turned_matroid(ten), told_by_web(ten), turning_at(ten, ())], [False, False, None])
        self.assertEqual(fullest_at(ten, (0, 1)), ten)
        self.assertEqual(len(step_web(ten, (), 3, 9)), 45)

    def test_lots_and_things_come_before_the_family(self):
        for family in (NOT_GATED, UNEVEN, GATED_ONLY):
            for call in (parts_at, turning_at, fullest_at):
                for lot, place in ((None, -1), ((0, family.size), 1), ((1, 1), 1), ([True], 0)):
                    self.assert_error(BadLot(place), call, family, lot)
        for call in (parts_at, turning_at, fullest_at):
            self.assert_error(NotInside((0, 1)), call, NOT_GATED, [1, 0])
            self.assert_error(NotInside((1, 2)), call, UNEVEN, [2, 1])

    def test_then_gated_then_even(self):
        for family in (NOT_GATED, UNEVEN, GATED_ONLY, *chosen_families((4, 5))):
            found, unlike = find_break(family), unlike_parity(family)
            error = NotGated(*found) if found else NotEven(*unlike) if unlike else None
            if error is not None:
                lot = family.lots[-1]
                for call in (is_turned_matroid, told_by_web):
                    self.assert_error(error, call, family)
                for call in (parts_at, turning_at, fullest_at):
                    self.assert_error(error, call, family, lot)
        self.assert_error(NotGated(*find_break(NOT_GATED)), is_turned_matroid, NOT_GATED)
        self.assert_error(NotEven((), (0,)), told_by_web, UNEVEN)

    def test_the_errors_of_a_step_and_their_order(self):
        even = Family.of(3, (0,), (1,))
        for family in (even, NOT_GATED):
            for lot, x, y, error in (
                (None, None, None, BadLot(-1)), ((0, 9), 0, 1, BadLot(1)), ((2,), 9, 9, BadThing(9)),
                ((2,), True, 0, BadThing(True)), ((2,), 0, -1, BadThing(-1)), ((2,), 0, 0, BadThing(0)),
                ((2,), 0, False, BadThing(False)), ([2, 1], 0, 1, NotInside((1, 2))),
            ):
                self.assert_error(error, step_web, family, lot, x, y)
        self.assert_error(NotInside((2,)), step_web, even, (0,), 2, 0)
        self.assert_error(NotInside((0, 1)), step_web, NOT_GATED, (), 1, 0)
        mixed = Family.of(3, (), (0, 1), (0,))
        self.assert_error(NotEven((), (0,)), step_web, mixed, (), 0, 1)
        broken = Family.of(4, (), (0, 1), (0, 1, 2, 3), (2,))
        self.assert_error(NotGated(*find_break(broken)), step_web, broken, (), 0, 1)
