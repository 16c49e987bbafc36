import itertools

from tests.helpers import Case, every_family, gated_families, gated_row, small_families
from tests.test_met import signed, true_pairs
from turnlots.errors import BadLot, BadPair, NoLot, TooMany
from turnlots.families import Family
from turnlots.kept import forced, free_after, least_refused
from turnlots.met import Pair, is_kept, met


def keepers(family, pair):
    return [
        lot for lot in family.lots if set(pair[0]) <= set(lot) and not set(pair[1]) & set(lot)
    ]


def true_least_refused(family):
    pairs = true_pairs(family.size)
    refused = {pair for pair in pairs if not keepers(family, pair)}
    return [
        (one, other) for one, other in pairs if (one, other) in refused
        and not any((tuple(sorted(set(one) - {x})), tuple(sorted(set(other) - {x}))) in refused
                    for x in one + other)
    ]


def within(one, other):
    return set(one[0]) <= set(other[0]) and set(one[1]) <= set(other[1])


def contrary(one, other):
    return (set(one[0]) & set(other[1])) | (set(one[1]) & set(other[0]))


def told(pairs):
    return [(pair.wanted, pair.unwanted) for pair in pairs]


class RefusedTest(Case):
    def test_point_40_least_refused_pairs_in_order(self):
        for family in [*small_families(), *every_family(4, 1237)]:
            least = least_refused(family)
            self.assert_same(told(least), true_least_refused(family))
            self.assertTrue(all(isinstance(pair, Pair) for pair in least))

    def test_point_40_a_pair_is_kept_exactly_if_no_least_refused_one_is_within_it(self):
        for family in [*small_families(), *every_family(4, 2221)]:
            least = told(least_refused(family))
            for pair in true_pairs(family.size):
                self.assertEqual(is_kept(family, pair), not any(within(one, pair) for one in least))

    def test_point_40_two_least_refused_pairs_of_a_gated_family(self):
        for family in [*gated_families(3), *gated_families(4)[::40], *gated_row(5)]:
            least = told(least_refused(family))
            for one, other in itertools.combinations(least, 2):
                self.assertNotEqual(len(contrary(one, other)), 1)
                if not contrary(one, other):
                    self.check_common(least, one, other)

    def check_common(self, least, one, other):
        both = (set(one[0]) | set(other[0]), set(one[1]) | set(other[1]))
        for side in (0, 1):
            for x in set(one[side]) & set(other[side]):
                rest = (both[0] - {x}, both[1] - {x})
                self.assertTrue(any(within(pair, rest) for pair in least))

    def test_point_40_fails_in_a_family_that_is_not_gated(self):
        least = told(least_refused(Family.of(3, (), (0, 1, 2))))
        self.assertIn(1, {len(contrary(one, other)) for one, other in itertools.combinations(least, 2)})

    def test_edges_of_the_sizes(self):
        self.assertEqual(least_refused(Family.everything(6)), [])
        self.assertEqual(told(least_refused(Family.of(1, ()))), [((0,), ())])
        for size in (7, 10):
            self.assert_error(TooMany("things"), least_refused, Family.of(size, ()))

    def test_point_1_answers_are_new(self):
        family = Family.of(2, (0,))
        least_refused(family).clear()
        self.assertEqual(told(least_refused(family)), [((), (0,)), ((1,), ())])


class ForcedTest(Case):
    def test_point_41_forced_and_free_things(self):
        for family in [*small_families(), *every_family(4, 1999)]:
            for pair in true_pairs(family.size):
                lots = keepers(family, pair)
                if not lots:
                    self.assert_error(NoLot(), forced, family, pair)
                    self.assert_error(NoLot(), free_after, family, Pair(*pair))
                else:
                    self.check_forced(family, pair, lots)

    def check_forced(self, family, pair, lots):
        others = [x for x in range(family.size) if x not in pair[0] + pair[1]]
        inside = tuple(x for x in others if all(x in lot for lot in lots))
        outside = tuple(x for x in others if not any(x in lot for lot in lots))
        found = forced(family, [list(pair[0])[::-1], pair[1]])
        self.assertIsInstance(found, Pair)
        self.assert_same((found.wanted, found.unwanted), (inside, outside))
        free = tuple(x for x in others if x not in inside + outside)
        self.assert_same(free_after(family, Pair(*pair)), free)
        for x in others:
            here = met(family, pair)
            self.assertEqual(x in inside, met(family, signed(pair, -1 - x)) == here)
            self.assertEqual(x in outside, met(family, signed(pair, x)) == here)

    def test_fixed_things_are_forced_by_the_empty_pair(self):
        family = Family.of(10, (3,), (3, 4), (3, 4, 9))
        found = forced(family, ((), ()))
        self.assert_same((found.wanted, found.unwanted), ((3,), (0, 1, 2, 5, 6, 7, 8)))
        self.assert_same(free_after(family, ((), ())), (4, 9))
        self.assert_same(free_after(family, ((9,), ())), ())

    def test_errors_and_their_order(self):
        family = Family.of(3, (0,))
        for pair, error in (
            (None, BadPair(-1)), (((),), BadPair(-1)), (((3,), None), BadLot(0)), (((1,), None), BadLot(-1)),
            (((1, 2), (2, 1)), BadPair(1)), (Pair((), (7,)), BadLot(0)), (((1,), ()), NoLot()),
        ):
            self.assert_error(error, forced, family, pair)
            self.assert_error(error, free_after, family, pair)
