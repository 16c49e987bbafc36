import itertools

from tests.helpers import (
    Case, apart_places, are_alone, between, chosen_families, every_family, gap_of, gated_families,
    gated_sample, plus, small_families, some_even_families, whole_pairs_of,
)
from tests.test_book import some_wishes
from turnlots.book import best_lots
from turnlots.bothways import (
    both_partners, far_by, fewest_steps, lone_four_by, lone_three, needs_both, one_way, pairs_and_single,
    works_both_ways,
)
from turnlots.breaks import is_gated
from turnlots.errors import BadLot, BadThing, NotBothWays, NotInside
from turnlots.families import Family
from turnlots.lifts import lift, parity_split
from turnlots.neighbours import are_neighbours

ONE_WAY = Family.of(3, (), (0,), (1,), (2,), (0, 1, 2))


def true_common(family, one, other, x):
    """The common partners: point 106, word by word."""
    lots, found = set(family.lots), []
    for y in plus(one, other):
        things = (x,) if y == x else (x, y)
        if plus(one, things) in lots and plus(other, things) in lots:
            found.append(y)
    return found


def true_one_way(family):
    return min((
        (one, other, x) for one, other in itertools.product(family.lots, family.lots)
        for x in plus(one, other) if not true_common(family, one, other, x)
    ), default=None)


def partings_of(things):
    """All ways to part the things into lots of two and at most one lot of one."""
    if not things:
        return [()]
    first, rest = things[0], things[1:]
    found = [((first, y), *blocks) for y in rest for blocks in partings_of([x for x in rest if x != y])]
    if len(things) % 2:
        found += [((first,), *blocks) for blocks in partings_of(rest)]
    return found


def true_blocks(family, one, other):
    lots = set(family.lots)
    return min((
        tuple(sorted(blocks)) for blocks in partings_of(plus(one, other))
        if all(plus(one, block) in lots for block in blocks)
    ), default=None)


def true_far_by(family):
    found = []
    for one, other in itertools.combinations(family.lots, 2):
        gap = gap_of(one, other)
        rest = [
            lot for lot in family
            if lot not in (one, other) and len(lot) % 2 == len(one) % 2 and between(lot, one, other)
        ]
        if gap % 2 and gap >= 5 and are_alone(family, one, other) or gap % 2 == 0 and gap >= 6 and not rest:
            found.append((one, other))
    return min(found, default=None)


def true_steps(family, one, other):
    reached, steps = {one}, 0
    while other not in reached:
        more = {lot for lot in family for near in reached if gap_of(lot, near) <= 2}
        if more == reached:
            return None
        reached, steps = more, steps + 1
    return steps


def both_ways_sample():
    """Families that work both ways: of sizes 1 to 3 all that are gated, and others."""
    return [family for family in gated_sample() if true_one_way(family) is None]


FAMILIES = [*small_families(), *every_family(4, 1511), *gated_families(4)[::40], *chosen_families((5,), 2)]
FAR = [
    Family.of(5, (), (0, 1, 2, 3, 4)), Family.of(6, (), (0, 1, 2, 3, 4, 5)),
    Family.of(6, (0,), (1, 2, 3, 4, 5)), Family.of(6, (), (0,), (0, 1, 2, 3, 4, 5)), Family.of(7, (6,), (0, 1, 2, 3, 4, 5)),
    Family.of(7, (1,), (0, 2, 3, 4, 5), (0, 1, 2, 3, 4, 5, 6)), Family.of(8, tuple(range(7)), (7,), ()),
    Family.of(6, (), (0, 1), (0, 1, 2, 3, 4, 5)),
]


class OneWayTest(Case):
    def test_point_106_the_first_without_a_common_partner(self):
        seen = {True: 0, False: 0}
        for family in FAMILIES:
            found = true_one_way(family)
            self.assert_same(one_way(family), found)
            self.assert_same(works_both_ways(family), found is None)
            if found is None:
                self.assertIsNone(needs_both(family))
            else:
                self.assert_error(NotBothWays(*found), needs_both, family)
            seen[found is None] += 1
        self.assertGreater(min(seen.values()), 60)

    def test_point_106_common_partners(self):
        for family in FAMILIES[::2]:
            for one, other in itertools.product(family.lots[:7], family.lots[-7:]):
                for x in plus(one, other):
                    expected = true_common(family, one, other, x)
                    self.assert_same(both_partners(family, list(one)[::-1], other, x), expected)
                    self.assertEqual(both_partners(family, other, one, x), expected)

    def test_point_106_such_a_family_is_gated(self):
        for family in [*FAMILIES, *gated_families(4)]:
            if works_both_ways(family):
                self.assertTrue(is_gated(family))
        self.assertTrue(is_gated(ONE_WAY))
        self.assert_same([one_way(ONE_WAY), both_partners(ONE_WAY, (), (0, 1, 2), 0)], [((), (0, 1, 2), 0), []])
        for size in (1, 2):
            for family in every_family(size):
                self.assert_same(works_both_ways(family), True)

    def test_point_106_exactly_one_of_the_two_lots(self):
        seen = 0
        for family in [*gated_families(3), *gated_families(4)[::7]]:
            for one, other in itertools.combinations(family.lots, 2):
                for x in plus(one, other):
                    if not true_common(family, one, other, x):
                        seen += 1
                        self.assertEqual(family.has(plus(one, (x,))) + family.has(plus(other, (x,))), 1)
        self.assertGreater(seen, 50)

    def test_a_thing_can_be_its_own_partner(self):
        self.assert_same(both_partners(Family.everything(2), (), (0, 1), 1), [0, 1])
        self.assert_same(both_partners(Family.everything(1), (), (0,), 0), [0])
        # one lot with x exchanged is not enough
        self.assert_same(both_partners(Family.of(3, (), (0,), (0, 1, 2)), (), (0, 1, 2), 0), [])

    def test_sizes_1_and_10(self):
        self.assert_same([works_both_ways(Family.of(1, (0,))), one_way(Family.everything(1))], [True, None])
        self.assert_same([works_both_ways(Family.everything(10)), works_both_ways(Family.sized(10, 4, 6))], [True, True])
        ten = tuple(range(10))
        self.assert_same(one_way(Family.of(10, (), ten)), ((), ten, 0))

    def test_errors_and_their_order(self):
        family = Family.of(3, (0,), (1,), (0, 1, 2))
        for one, other, thing, error in (
            (None, None, None, BadLot(-1)), ((0,), (0, 3), None, BadLot(1)), ((2,), (1,), 3, BadThing(3)),
            ((2,), (1,), True, BadThing(True)), ((2,), (1,), 0, BadThing(0)), ((0,), (0,), 0, BadThing(0)),
            ((2,), (0, 2), 0, NotInside((2,))), ((1,), [2, 1], 2, NotInside((1, 2))),
        ):
            self.assert_error(error, both_partners, family, one, other, thing)

    def test_point_1_answers_are_new(self):
        self.assert_new(both_partners, Family.everything(3), (), (0, 1, 2), 1)


class BlocksTest(Case):
    def test_point_108_the_first_blocks(self):
        seen = {True: 0, False: 0}
        for family in [*FAMILIES[::2], *chosen_families((6,), 2)]:
            for one, other in itertools.product(family.lots[:7], family.lots[-7:]):
                found = true_blocks(family, one, other)
                self.assert_same(pairs_and_single(family, list(one)[::-1], list(other)), found)
                seen[found is None] += 1
        self.assertGreater(min(seen.values()), 100)

    def test_point_108_edges(self):
        ten = tuple(range(10))
        self.assert_same(pairs_and_single(Family.of(1, (0,)), (0,), (0,)), ())
        self.assert_same(pairs_and_single(ONE_WAY, (0, 1, 2), (2, 1, 0)), ())
        # an even gap has no single, although there are lots for it
        self.assert_same(pairs_and_single(Family.of(2, (), (0,), (1,), (0, 1)), (), (1, 0)), ((0, 1),))
        singles = Family.of(4, (), (0,), (1,), (2,), (3,), (0, 1, 2, 3))
        self.assertIsNone(pairs_and_single(singles, (), (0, 1, 2, 3)))
        self.assert_same(
            pairs_and_single(Family.everything(10), (), ten), ((0, 1), (2, 3), (4, 5), (6, 7), (8, 9))
        )
        self.assert_same(
            pairs_and_single(Family.everything(10), (), ten[1:]), ((1,), (2, 3), (4, 5), (6, 7), (8, 9))
        )

    def test_point_108_exactly_the_families_that_work_both_ways(self):
        for family in FAMILIES + FAR:
            told = all(
                pairs_and_single(family, one, other) is not None
                for one, other in itertools.product(family.lots, family.lots)
            )
            self.assertEqual(told, works_both_ways(family))

    def test_errors_and_their_order(self):
        family = Family.of(3, (0,), (1,))
        for one, other, error in (
            (None, None, BadLot(-1)), ((0, 3), None, BadLot(1)), ((2,), (1, 1), BadLot(1)), ((0,), [True], BadLot(0)),
            ([2, 0], (2,), NotInside((0, 2))), ((0,), [2, 0], NotInside((0, 2))),
        ):
            for call in (pairs_and_single, fewest_steps):
                self.assert_error(error, call, family, one, other)


class ThreesAndFoursTest(Case):
    def test_point_109_the_first_three(self):
        seen = {True: 0, False: 0}
        for family in FAMILIES:
            found = next((
                (outer, lot) for outer, lot in apart_places(family.size, 3)
                if whole_pairs_of(family, outer, lot) == 1
            ), None)
            self.assert_same(lone_three(family), found)
            seen[found is None] += 1
        self.assertGreater(min(seen.values()), 60)

    def test_point_109_the_first_four_and_its_parity(self):
        seen = {0: 0, 1: 0, None: 0}
        for family in [*FAMILIES, *every_family(4, 97), *some_even_families((5,), 2)]:
            found = next((
                (outer, lot, parity) for outer, lot in apart_places(family.size, 4) for parity in (0, 1)
                if whole_pairs_of(family, outer, lot, parity) == 1
            ), None)
            self.assert_same(lone_four_by(family), found)
            seen[found and found[2]] += 1
        self.assertGreater(min(seen.values()), 20)

    def test_point_109_far_lots(self):
        for family in [*FAMILIES, *FAR, *chosen_families((6,), 5), *chosen_families((7,), 3)]:
            self.assert_same(far_by(family), true_far_by(family))
        ones = [
            ((), (0, 1, 2, 3, 4)), ((), (0, 1, 2, 3, 4, 5)), ((0,), (1, 2, 3, 4, 5)), ((), (0, 1, 2, 3, 4, 5)),
            ((0, 1, 2, 3, 4, 5), (6,)), ((0, 1, 2, 3, 4, 5, 6), (1,)), ((), (0, 1, 2, 3, 4, 5, 6)), None,
        ]
        self.assert_same([far_by(family) for family in FAR], ones)

    def check_all(self, family):
        """All tests of points 107 to 110 say the same of the family."""
        told = one_way(family) is None
        by_lots = lone_three(family) is None and lone_four_by(family) is None and far_by(family) is None
        self.assertEqual(by_lots, told)
        if family.size < 10:
            self.assertEqual(is_gated(lift(family)), told)
        halves = [half for half in parity_split(family) if half is not None]
        by_halves = all(is_gated(half) for half in halves)
        self.assertEqual(by_halves and (len(halves) < 2 or are_neighbours(*halves)), told)
        return told

    def test_points_107_to_110_all_small_families_and_gated_ones_of_size_4(self):
        seen = [self.check_all(family) for family in [*small_families(), *gated_families(4)]]
        self.assertGreater(min(seen.count(True), seen.count(False)), 100)

    def test_points_107_to_110_other_families(self):
        others = [*every_family(4, 89), *FAR, *chosen_families((5, 6, 7), 5), *some_even_families((6,), 3)]
        seen = [self.check_all(family) for family in others]
        self.assertGreater(min(seen.count(True), seen.count(False)), 30)

    def test_sizes_1_and_10(self):
        for family in (Family.of(1, ()), Family.everything(1), Family.everything(10), Family.of(10, (2, 5))):
            self.assert_same([lone_three(family), lone_four_by(family), far_by(family)], [None, None, None])
        ten = tuple(range(10))
        self.assert_same(far_by(Family.of(10, (), ten)), ((), ten))
        self.assert_same(far_by(Family.of(10, (), (4,), ten)), ((), ten))
        self.assert_same(far_by(Family.of(10, (3,), ten)), ((0, 1, 2, 3, 4, 5, 6, 7, 8, 9), (3,)))
        self.assert_same(far_by(Family.of(10, (3,), (3, 5), ten)), (ten, (3, 5)))
        self.assert_same(far_by(Family.of(10, (), (4, 5), ten)), (ten, (4, 5)))
        self.assert_same(lone_three(Family.of(10, (9,), (6, 7, 8, 9))), ((9,), (6, 7, 8)))
        self.assert_same(lone_four_by(Family.of(10, (5,), (5, 6, 7, 8, 9))), ((5,), (6, 7, 8, 9), 1))


class FewestStepsTest(Case):
    def test_point_111_the_fewest_steps(self):
        seen = set()
        for family in [*FAMILIES[::2], *FAR, *chosen_families((6,), 2)]:
            for one, other in itertools.product(family.lots[:7], family.lots[-7:]):
                found = true_steps(family, one, other)
                self.assert_same(fewest_steps(family, list(one)[::-1], other), found)
                seen.add(found)
                if found is not None:
                    self.assertGreaterEqual(2 * found, gap_of(one, other))
        self.assertTrue({None, 0, 1, 2, 3} <= seen)

    def test_point_111_in_gated_families(self):
        for family in [*gated_sample(), *gated_families(4)[::9]]:
            for one, other in itertools.product(family.lots, family.lots):
                self.assertLessEqual(fewest_steps(family, one, other), gap_of(one, other))

    def test_point_111_in_families_that_work_both_ways(self):
        for family in both_ways_sample():
            for one, other in itertools.product(family.lots, family.lots):
                self.assertEqual(fewest_steps(family, one, other), (gap_of(one, other) + 1) // 2)
                if gap_of(one, other) % 2:
                    self.assertTrue(any(family.has(plus(one, (x,))) for x in plus(one, other)))

    def test_point_111_edges(self):
        family = Family(4, [(), (0,), (1,), (2,), (3,), (0, 1, 2), (0, 1, 3), (0, 2, 3), (1, 2, 3), (0, 1, 2, 3)])
        self.assertTrue(is_gated(family) and not works_both_ways(family))
        self.assert_same(fewest_steps(family, (), (3, 2, 1, 0)), 3)
        self.assert_same(fewest_steps(Family.of(3, (), (0, 1, 2)), (), (0, 1, 2)), None)
        # away from both lots and back
        self.assert_same(fewest_steps(Family.of(5, (), (3,), (0, 1, 3), (0, 1, 2)), (), (0, 1, 2)), 3)
        self.assert_same(fewest_steps(Family.everything(10), (), tuple(range(10))), 5)
        self.assert_same(fewest_steps(Family.of(1, ()), (), ()), 0)


class TwoBestLotsTest(Case):
    def test_point_119_another_thing_with_the_same_number(self):
        seen = 0
        for family in [*gated_sample(), *gated_families(4)[::40]]:
            wishes = itertools.islice(itertools.product((1, -1, 0, 2), repeat=family.size), 0, None, 5)
            for wish in wishes if family.size < 5 else some_wishes(family.size, 6):
                best = best_lots(family, wish)
                for one, other in itertools.combinations(best, 2):
                    for x in plus(one, other):
                        if wish[x] != 0:
                            seen += 1
                            self.assertTrue(any(
                                y != x and abs(wish[y]) == abs(wish[x])
                                and plus(one, (x, y)) in best and plus(other, (x, y)) in best
                                for y in plus(one, other)
                            ))
        self.assertGreater(seen, 1000)
