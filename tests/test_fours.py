import itertools

from tests.helpers import (
    Case, apart_places, are_alone, chosen_families, every_even_family, every_lot, gap_of, gated_families,
    plus, small_families, some_even_families, true_nearest, whole_pairs_of,
)
from turnlots.breaks import is_gated
from turnlots.errors import NotEven
from turnlots.even import is_even
from turnlots.families import Family
from turnlots.fours import base_break, far_alone, lone_four


def true_lone_four(family):
    # the family is even, so no lot of the other parity is in it
    for outer, lot in apart_places(family.size, 4):
        if whole_pairs_of(family, outer, lot) == 1:
            return outer, lot
    return None


def true_far_alone(family):
    return min((
        (one, other) for one, other in itertools.combinations(family.lots, 2)
        if gap_of(one, other) >= 6 and are_alone(family, one, other)
    ), default=None)


def true_base_break(family):
    for outer in every_lot(family.size):
        bases = sorted(plus(outer, near) for near in true_nearest(family, outer))
        for one, other in itertools.product(bases, bases):
            for x in sorted(set(one) - set(other)):
                if not any(plus(one, (x, y)) in bases for y in set(other) - set(one)):
                    return outer, one, other, x
    return None


def even_ones():
    for size in (1, 2, 3, 4):
        yield from every_even_family(size)
    yield from some_even_families()


class FoursTest(Case):
    def test_point_97_the_first_four(self):
        seen = {True: 0, False: 0}
        for family in even_ones():
            found = true_lone_four(family)
            self.assert_same(lone_four(family), found)
            seen[found is None] += 1
        self.assertGreater(min(seen.values()), 30)

    def test_point_97_the_first_two_alone(self):
        far = [Family.of(6, (), (0, 1, 2, 3, 4, 5)), Family.of(7, (), (0, 1, 2, 3, 4, 5, 6), (0,))]
        far += [Family.of(6, (0, 2, 4), (1, 3, 5), (0, 2), (1,)), Family.of(7, (6,), (0, 1, 2, 3, 4, 5), (0, 1))]
        for family in [*far, *chosen_families((5, 6, 7)), *some_even_families()]:
            self.assert_same(far_alone(family), true_far_alone(family))
        self.assert_same([far_alone(family) for family in far], [
            ((), (0, 1, 2, 3, 4, 5)), ((0,), (0, 1, 2, 3, 4, 5, 6)), None, None,
        ])

    def test_point_97_the_first_base_break(self):
        seen = {True: 0, False: 0}
        for family in [*small_families(), *every_even_family(4), *chosen_families((4, 5), 4), *some_even_families()]:
            found = true_base_break(family)
            self.assert_same(base_break(family), found)
            seen[found is None] += 1
        self.assertGreater(min(seen.values()), 30)

    def test_point_97_all_tests_say_the_same_of_an_even_family(self):
        seen = {True: 0, False: 0}
        for family in [*even_ones(), *(f for f in gated_families(4) if is_even(f)), *some_even_families((7,), 2)]:
            by_fours = lone_four(family) is None and far_alone(family) is None
            self.assertEqual(by_fours, is_gated(family))
            self.assertEqual(base_break(family) is None, is_gated(family))
            seen[by_fours] += 1
        self.assertGreater(min(seen.values()), 100)

    def test_point_97_far_lots_alone_are_seen_by_no_four(self):
        family = Family.of(6, (), (0, 1, 2, 3, 4, 5))
        self.assert_same((lone_four(family), far_alone(family)), (None, ((), (0, 1, 2, 3, 4, 5))))
        self.assertFalse(is_gated(family))
        self.assert_same(base_break(family), ((0, 1, 2), (0, 1, 2), (3, 4, 5), 0))

    def test_families_that_are_not_even(self):
        for family in [*small_families(), *chosen_families((4, 5))]:
            lots = sorted(
                pair for pair in itertools.combinations(family.lots, 2) if gap_of(*pair) % 2
            )
            if lots:
                self.assert_error(NotEven(*lots[0]), lone_four, family)

    def test_a_base_break_does_not_ask_for_an_even_family(self):
        # gated and not even: the bases exchange
        self.assertIsNone(base_break(Family.everything(3)))
        self.assert_same(base_break(Family.of(3, (), (0, 1, 2))), None)
        self.assert_same(base_break(Family.of(4, (), (0, 1, 2, 3))), ((0, 1), (0, 1), (2, 3), 0))

    def test_sizes_1_and_10_and_few_or_all_lots(self):
        for family in (Family.of(1, ()), Family.of(1, (0,)), Family.of(10, (3, 4)), Family.sized(10, 5, 5)):
            self.assertIsNone(lone_four(family))
            self.assertIsNone(far_alone(family))
            self.assertIsNone(base_break(family))
        self.assertIsNone(far_alone(Family.everything(10)))
        self.assertIsNone(base_break(Family.everything(10)))
        odd = [lot for lot in every_lot(10) if len(lot) % 2]
        self.assertIsNone(lone_four(Family(10, odd)))
        self.assertIsNone(far_alone(Family(10, odd)))
        # each lot that is taken out is in another one of the pairs of Q with T = ()
        self.assert_same(
            lone_four(Family(10, [lot for lot in odd if lot not in ((0,), (0, 6, 7), (0, 6, 8))])),
            ((), (0, 6, 7, 8)),
        )
        ten = tuple(range(10))
        two = Family.of(10, (), ten)
        self.assert_same([lone_four(two), far_alone(two)], [None, ((), ten)])
        self.assert_same(base_break(two), ((0, 1, 2, 3, 4), (0, 1, 2, 3, 4), (5, 6, 7, 8, 9), 0))
