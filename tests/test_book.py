import itertools
import random

from tests.helpers import (
    Case, chosen_families, every_family, every_lot, gap_of, gated_families, gated_sample, plus,
    small_families, true_depth, true_nearest,
)
from tests.test_met import true_pairs
from turnlots.bases import At
from turnlots.book import (
    best_family, best_lots, best_value, bettering, book, book_steps, bookless, is_best,
)
from turnlots.breaks import is_gated
from turnlots.errors import BadLot, BadWish, NotInside
from turnlots.families import Family
from turnlots.met import keeper, reach
from turnlots.wishes import Wish


def worth_of(wish, lot):
    return sum(wish[x] for x in lot)


def true_best(family, wish):
    best = max(worth_of(wish, lot) for lot in family)
    return [lot for lot in family if worth_of(wish, lot) == best]


def some_wishes(size, each=6, seed=3):
    """A row of wishes with numbers that are equal, 0, contrary or huge, always the same one."""
    chooser = random.Random(seed)
    yield (0,) * size
    for low, high in ((-1, 1), (-3, 3), (1, 4), (-10 ** 28, 10 ** 28)):
        for _ in range(each):
            yield tuple(chooser.randint(low, high) for _ in range(size))


def order_wishes(size):
    """A wish without 0 for each order and each row of signs, with different absolute values."""
    for values in itertools.permutations(range(size + 1, 2 * size + 1)):
        for signs in itertools.product((1, -1), repeat=size):
            yield tuple(value * sign for value, sign in zip(values, signs))


def true_steps(family, wish):
    """The steps of the book, each asked as a signed pair: point 62, word by word."""
    inside, out, steps = [], [], []
    for x in sorted(range(family.size), key=lambda x: (-abs(wish[x]), x)):
        can_in = keeper(family, (inside + [x], out)) is not None
        can_out = keeper(family, (inside, out + [x])) is not None
        is_in = can_in if wish[x] > 0 else not can_out
        steps.append((x, is_in, "free" if can_in and can_out else "forced"))
        (inside if is_in else out).append(x)
    return steps


def true_bettering(family, wish, lot):
    ways = [(x,) for x in range(family.size)] + list(itertools.combinations(range(family.size), 2))
    for way in ways:
        other = plus(lot, way)
        if other in family.lots and worth_of(wish, other) > worth_of(wish, lot):
            return way
    return None


def families():
    yield from small_families()
    yield from gated_families(4)[::150]
    yield from every_family(4, 5003)
    yield from chosen_families((5, 6), 2)


class BestTest(Case):
    def test_point_61_best_value_and_best_lots(self):
        for family in families():
            for wish in some_wishes(family.size, 2):
                lots = true_best(family, wish)
                self.assert_same(best_value(family, list(wish)), worth_of(wish, lots[0]))
                self.assert_same(best_lots(family, Wish(*wish)), lots)
                self.assertEqual(best_family(family, wish), Family(family.size, lots))
                for lot in family.lots[:5]:
                    self.assert_same(is_best(family, wish, list(lot)[::-1]), lot in lots)

    def test_sizes_1_and_10(self):
        self.assert_same(best_lots(Family.everything(1), (0,)), [(), (0,)])
        self.assert_same(best_value(Family.of(1, (0,)), [-10 ** 30]), -10 ** 30)
        wish = tuple(range(-5, 5))
        self.assert_same(best_lots(Family.everything(10), wish), [(5, 6, 7, 8, 9), (6, 7, 8, 9)])
        self.assert_same(best_value(Family.sized(10, 7, 7), wish), 7)

    def test_point_1_answers_are_new(self):
        family = Family.of(2, (), (0,))
        self.assert_new(best_lots, family, (0, 0))
        self.assert_new(book_steps, family, (0, 0))


class BookTest(Case):
    def test_point_62_steps_of_the_book(self):
        for family in families():
            for wish in some_wishes(family.size, 2):
                steps = true_steps(family, wish)
                self.assert_same(book_steps(family, list(wish)), steps)
                lot = tuple(sorted(x for x, is_in, _ in steps if is_in))
                self.assert_same(book(family, Wish(*wish)), lot)
                self.assertIn(lot, family)

    def test_point_62_a_number_of_0_keeps_out(self):
        self.assert_same(book(Family.everything(3), (0, 0, 0)), ())
        self.assert_same(book_steps(Family.of(2, (0,)), (0, 0)), [(0, True, "forced"), (1, False, "forced")])

    def test_point_62_equal_absolute_values(self):
        family = Family.of(3, (0,), (1,), (2,))
        self.assert_same(book_steps(family, (2, 2, -2)),
                         [(0, True, "free"), (1, False, "forced"), (2, False, "forced")])
        self.assert_same(book_steps(family, (-2, 2, 3)),
                         [(2, True, "free"), (0, False, "forced"), (1, False, "forced")])

    def test_point_66_the_book_ends_in_a_best_lot_exactly_in_gated_families(self):
        for family in [*every_family(3), *gated_families(4)[::400], *every_family(4, 8009)]:
            wishes = list(order_wishes(family.size))
            self.assertEqual(self.book_serves(family, wishes), is_gated(family))
            if is_gated(family):
                self.assertTrue(self.book_serves(family, some_wishes(family.size)))

    def book_serves(self, family, wishes):
        return all(is_best(family, wish, book(family, wish)) for wish in wishes)

    def test_point_67_any_order_of_equal_absolute_values(self):
        for family in gated_sample():
            for wish in some_wishes(family.size, 1):
                # numbered the other way round, the greater one of two equal things comes first
                size = family.size
                turned = tuple(wish[size - 1 - x] for x in range(size))
                mirror = Family(size, [tuple(size - 1 - x for x in lot) for lot in family])
                lot = tuple(sorted(size - 1 - x for x in book(mirror, turned)))
                self.assertIn(lot, true_best(family, wish))

    def test_point_67_best_lots_of_a_gated_family(self):
        for family in gated_sample():
            for wish in some_wishes(family.size, 2):
                self.assertTrue(is_gated(best_family(family, wish)))
                values = [abs(number) for number in wish]
                if 0 not in values and len(set(values)) == family.size:
                    self.assertEqual(len(best_lots(family, wish)), 1)

    def test_point_66_bookless(self):
        seen = 0
        for family in [*small_families(), *every_family(4, 97), *chosen_families((5, 6, 10), 3)]:
            found = bookless(family)
            self.assertEqual(found is None, is_gated(family))
            if found is not None:
                self.assertIs(type(found), Wish)
                values = {abs(number) for number in found}
                self.assertEqual((len(found), len(values)), (family.size, family.size))
                self.assertNotIn(0, values)
                self.assertNotIn(book(family, found), true_best(family, found))
                seen += 1
        self.assertGreater(seen, 500)


    def test_point_66_bookless_for_lots_of_few_things_between_far_ones(self):
        ten = tuple(range(10))
        for x, y, z in ((0, 1, 2), (0, 8, 9), (3, 4, 9), (7, 8, 9)):
            for turn in ((), (0,), (2, 4, 8, 9), ten):
                family = Family.of(10, (), (x, y, z), ten) ^ turn
                found = bookless(family)
                self.assertNotIn(book(family, found), true_best(family, found))


class BetteringTest(Case):
    def test_point_63_first_bettering(self):
        for family in families():
            for wish in some_wishes(family.size, 1):
                for lot in family.lots[:12]:
                    expected = true_bettering(family, wish, lot)
                    self.assert_same(bettering(family, wish, list(lot)[::-1]), expected)

    def test_point_63_one_thing_goes_before_two(self):
        family = Family.of(3, (), (0, 1), (2,))
        self.assert_same(bettering(family, (5, 5, 1), ()), (2,))
        self.assert_same(bettering(family, (5, -4, 0), ()), (0, 1))
        self.assertIsNone(bettering(family, (5, -5, 0), ()))

    def test_point_65_a_best_lot_has_no_bettering(self):
        for family in families():
            for wish in some_wishes(family.size, 2):
                self.assertIsNone(bettering(family, wish, best_lots(family, wish)[0]))

    def test_point_66_lots_without_bettering_in_gated_families(self):
        for family in gated_sample():
            for wish in some_wishes(family.size, 1):
                for lot in family.lots:
                    if bettering(family, wish, lot) is None:
                        self.assertTrue(is_best(family, wish, lot))


class MoreOnBestLotsTest(Case):
    def test_point_65_turned(self):
        for family in families():
            for wish in some_wishes(family.size, 1):
                for lot in every_lot(family.size)[::5]:
                    turned = Wish(*wish).turned(lot)
                    lots = sorted(plus(best, lot) for best in best_lots(family, wish))
                    self.assertEqual(best_lots(family ^ lot, turned), lots)
                    best = best_value(family, wish) - worth_of(wish, lot)
                    self.assertEqual(best_value(family ^ lot, turned), best)

    def test_point_65_side_by_side(self):
        for one, other in itertools.product(every_family(2), every_family(3, 19)):
            for wish in some_wishes(5, 1):
                best = best_family(one, wish[:2]) * best_family(other, wish[2:])
                self.assertEqual(best_family(one * other, wish), best)

    def test_point_65_a_second_wish_for_those_that_are_equal(self):
        for family in families():
            for wish, second in itertools.product(some_wishes(family.size, 1), repeat=2):
                number = 2 * sum(abs(x) for x in second) + 1
                both = Wish(*wish).times(number) + Wish(*second)
                self.assertEqual(best_lots(family, both), true_best(best_family(family, wish), second))

    def test_point_68_wishes_of_signs(self):
        for family in [*every_family(2), *every_family(3, 3), *every_family(4, 9001)]:
            for wanted, unwanted in true_pairs(family.size):
                signs = [(x in wanted) - (x in unwanted) for x in range(family.size)]
                self.assertEqual(best_value(family, signs), reach(family, (wanted, unwanted)))
            for lot in every_lot(family.size):
                signs = [1 if x in lot else -1 for x in range(family.size)]
                self.assertEqual(best_lots(family, signs), true_nearest(family, lot))
                self.assertEqual(best_value(family, signs), len(lot) - true_depth(family, lot))

    def test_point_68_wishes_for_pairs_and_the_rest(self):
        for family in [*every_family(3, 7), *every_family(4, 15013)]:
            for wanted, unwanted in true_pairs(family.size)[::2]:
                for other in every_lot(family.size)[::3]:
                    self.check_rest(family, wanted, unwanted, other)

    def check_rest(self, family, wanted, unwanted, other):
        number = family.size + 1
        wish = [
            number if x in wanted else -number if x in unwanted else 1 if x in other else -1
            for x in range(family.size)
        ]
        reached = true_best(family, [(x in wanted) - (x in unwanted) for x in range(family.size)])
        rest = [len(set(plus(lot, other)) - {*wanted, *unwanted}) for lot in reached]
        lots = [lot for lot, gap in zip(reached, rest) if gap == min(rest)]
        self.assertEqual(best_lots(family, wish), lots)

    def test_point_68_wishes_for_bases(self):
        for family in [*every_family(3, 5), *gated_families(4)[::500]]:
            for lot, second in itertools.product(every_lot(family.size), some_wishes(family.size, 1)):
                number = 2 * sum(abs(x) for x in second) + 1
                wish = [number - v if x in lot else v - number for x, v in enumerate(second)]
                nearest = true_nearest(family, lot)
                best = max(worth_of(second, plus(near, lot)) for near in nearest)
                lots = [near for near in nearest if worth_of(second, plus(near, lot)) == best]
                self.assertEqual(best_lots(family, wish), lots)
                if is_gated(family):
                    bases = At(family, lot).bases()
                    self.assertEqual(best, max(worth_of(second, base) for base in bases))

    def test_point_66_two_best_lots_of_a_gated_family_are_near(self):
        for family in gated_sample():
            for wish in some_wishes(family.size, 2):
                lots = best_lots(family, wish)
                if len(lots) == 2:
                    self.assertLessEqual(gap_of(*lots), 2)


class ErrorsTest(Case):
    def test_wishes(self):
        family = Family.of(2, (0,))
        for wish, place in (
            (None, -1), ("ab", -1), ((1,), -2), (Wish(1, 2, 3), -2), ((1, None), 1), ([True, 2], 0),
        ):
            for call in (best_value, best_lots, best_family, book, book_steps):
                self.assert_error(BadWish(place), call, family, wish)
            for call in (is_best, bettering):
                self.assert_error(BadWish(place), call, family, wish, None)

    def test_lots(self):
        family = Family.of(2, (0,))
        for call in (is_best, bettering):
            for lot, place in ((None, -1), ((0, 2), 1), ([1, 1], 1)):
                self.assert_error(BadLot(place), call, family, (1, 2), lot)
            self.assert_error(NotInside((0, 1)), call, family, (1, 2), [1, 0])
