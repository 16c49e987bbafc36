import itertools

from tests.helpers import Case, chosen_families, every_family, every_lot, gated_families, plus, small_families
from tests.test_book import some_wishes
from tests.test_bothways import both_ways_sample
from tests.test_even import even_gated, true_is_even
from turnlots.book import best_value
from turnlots.bothways import works_both_ways
from turnlots.breaks import is_gated
from turnlots.errors import BadNumber, NoLot, TooMany
from turnlots.even import web_at
from turnlots.families import Family
from turnlots.lifts import drop_last, lift, parity_lots, parity_split
from turnlots.merges import merge
from turnlots.neighbours import are_neighbours
from turnlots.partings import finest, hangs_together
from turnlots.small import forget


def families():
    yield from small_families()
    yield from every_family(4, 1009)
    yield from gated_families(4)[::30]
    yield from chosen_families((5, 6), 3)


def far_wishes(size):
    """Wishes whose numbers are far apart from each other, in all orders and with all signs."""
    for order in itertools.permutations(range(size)):
        for signs in itertools.product((1, -1), repeat=size):
            yield tuple(sign * 3 ** place for place, sign in zip(order, signs))


def moved_to_the_end(family, x):
    """The family with the thing x as its last thing, and each thing above x one lower."""
    names = {y: y - (y > x) for y in range(family.size) if y != x}
    names[x] = family.size - 1
    return Family(family.size, [tuple(sorted(names[y] for y in lot)) for lot in family])


class LiftTest(Case):
    def test_point_107_the_lift(self):
        for family in families():
            lots = sorted(lot if len(lot) % 2 == 0 else (*lot, family.size) for lot in family)
            lifted = lift(family)
            self.assertIs(type(lifted), Family)
            self.assert_same((lifted.size, list(lifted)), (family.size + 1, lots))
            self.assertTrue(true_is_even(lifted))
            self.assertEqual(drop_last(lifted), family)
            self.assertEqual(forget(lifted, family.size), family)

    def test_point_107_works_both_ways_exactly_if_the_lift_is_gated(self):
        seen = {True: 0, False: 0}
        for family in [*small_families(), *gated_families(4)]:
            told = is_gated(lift(family))
            self.assertEqual(works_both_ways(family), told)
            seen[told] += 1
        self.assertGreater(min(seen.values()), 100)

    def test_drop_last(self):
        for family in families():
            if family.size == 1:
                self.assert_error(BadNumber("size"), drop_last, family)
            else:
                lots = sorted({tuple(x for x in lot if x < family.size - 1) for lot in family})
                found = drop_last(family)
                self.assert_same((found.size, list(found)), (family.size - 1, lots))

    def test_sizes_1_and_10(self):
        self.assertEqual(lift(Family.of(1, ())), Family.of(2, ()))
        self.assertEqual(lift(Family.everything(1)), Family.of(2, (), (0, 1)))
        even = Family(10, [lot for lot in every_lot(10) if len(lot) % 2 == 0])
        self.assertEqual(lift(Family.everything(9)), even)
        self.assertEqual(drop_last(even), Family.everything(9))
        self.assert_error(TooMany("things"), lift, even)
        self.assert_error(TooMany("things"), lift, Family.of(10, ()))


class ParityTest(Case):
    def test_point_110_lots_by_parity(self):
        for family in families():
            halves = []
            for parity in (0, 1):
                lots = tuple(lot for lot in family if len(lot) % 2 == parity)
                if lots:
                    half = parity_lots(family, parity)
                    self.assertIs(type(half), Family)
                    self.assert_same((half.size, half.lots), (family.size, lots))
                else:
                    half = None
                    self.assert_error(NoLot(), parity_lots, family, parity)
                halves.append(half)
            split = parity_split(family)
            self.assertIsInstance(split, tuple)
            self.assertEqual(list(split), halves)

    def test_lots_of_one_parity_alone(self):
        one = Family.of(1, (0,))
        self.assertEqual(parity_split(one), (None, one))
        self.assertEqual(parity_split(Family.of(10, ())), (Family.of(10, ()), None))
        self.assertEqual([len(half) for half in parity_split(Family.everything(10))], [512, 512])

    def test_parities_that_are_wrong(self):
        for parity in (-1, 2, True, False, None, "0", 1.0):
            # this comes before there is no lot
            self.assert_error(BadNumber("parity"), parity_lots, Family.of(2, ()), parity)

    def test_point_110_works_both_ways_by_the_two_halves(self):
        seen = {True: 0, False: 0}
        for family in families():
            halves = [half for half in parity_split(family) if half is not None]
            told = all(is_gated(half) for half in halves)
            told = told and (len(halves) < 2 or are_neighbours(*halves))
            self.assertEqual(works_both_ways(family), told)
            seen[told] += 1
        self.assertGreater(min(seen.values()), 50)

    def test_point_110_by_wishes(self):
        seen = {True: 0, False: 0}
        for family in [*gated_families(2), *gated_families(3), *gated_families(4)[::80]]:
            even, odd = parity_split(family)
            if even is not None and odd is not None and is_gated(even) and is_gated(odd):
                told = all(
                    abs(best_value(even, wish) - best_value(odd, wish)) in [abs(number) for number in wish]
                    for wish in [*some_wishes(family.size, 4), *far_wishes(family.size)]
                )
                self.assertEqual(told, works_both_ways(family))
                seen[told] += 1
        self.assertGreater(min(seen.values()), 5)


class ShadowTest(Case):
    def test_point_114_what_even_gated_families_leave(self):
        for family in even_gated():
            if family.size > 1:
                for x in range(family.size):
                    shadow = forget(family, x)
                    self.assertTrue(works_both_ways(shadow))
                    self.assertEqual(lift(shadow), moved_to_the_end(merge(lift(family), x, family.size), x))
                    if x in family.loose():
                        last = moved_to_the_end(family, x)
                        turn = (family.size - 1,) if len(family.lots[0]) % 2 else ()
                        self.assertEqual(lift(shadow), last ^ turn)
                    elif family.size > 2:
                        self.assertTrue(works_both_ways(forget(shadow, 0)))

    def test_point_114_the_lift_of_what_is_left_of_any_family(self):
        for family in families():
            if family.size > 1:
                for x in range(family.size):
                    merged = merge(lift(family), x, family.size)
                    self.assertEqual(lift(forget(family, x)), moved_to_the_end(merged, x))

    def test_point_114_each_family_comes_from_its_lift(self):
        for family in both_ways_sample():
            lifted = lift(family)
            self.assertTrue(is_gated(lifted) and true_is_even(lifted))
            self.assertEqual(drop_last(lifted), family)


class WebOfTheLiftTest(Case):
    def test_point_118_the_links(self):
        for family in both_ways_sample():
            n, lifted = family.size, lift(family)
            for lot in family.lots[:6]:
                web = web_at(lifted, lot if len(lot) % 2 == 0 else (*lot, n))
                for x in range(n):
                    self.assertEqual((x, n) in web, family.has(plus(lot, (x,))))
                    for y in range(x):
                        self.assertEqual((x, y) in web, family.has(plus(lot, (x, y))))
                self.assertEqual(web.web_parts(), finest(lifted))

    def test_point_118_the_parts(self):
        for family in both_ways_sample():
            alike = [
                part for part in finest(family)
                if len({len(set(lot) & set(part)) % 2 for lot in family}) == 1
            ]
            rest = [x for x in range(family.size) if not any(x in part for part in alike)]
            self.assertEqual(finest(lift(family)), tuple(sorted([*alike, (*rest, family.size)])))
        self.assert_same(finest(Family.everything(2)), ((0,), (1,)))
        self.assertTrue(hangs_together(lift(Family.everything(2))))
