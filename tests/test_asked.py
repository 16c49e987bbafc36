import itertools

from tests.helpers import Case, chosen_families, every_lot, gated_sample, small_families, true_depth
from tests.test_book import some_wishes
from turnlots.asked import Asker, find_best, find_depth, find_lot, told_apart
from turnlots.book import best_lots, book
from turnlots.breaks import is_gated
from turnlots.errors import BadLot, BadNumber, BadPair, BadWish, OtherSize, TooMany
from turnlots.families import Family
from turnlots.met import Pair, is_kept
from turnlots.reaches import all_pairs
from turnlots.wishes import Wish


class Watched(Asker):
    """An asker that keeps the pairs that it is asked for."""

    def __init__(self, family):
        Asker.__init__(self, family)
        self.pairs = []

    def ask(self, pair):
        answer = Asker.ask(self, pair)
        self.pairs.append((pair.wanted, pair.unwanted, answer))
        return answer


def keeps(family, wanted, unwanted):
    return any(set(wanted) <= set(lot) and not set(unwanted) & set(lot) for lot in family)


def true_asks(family, signs, is_turned):
    """What is asked and settled, thing by thing: point 139. A no turns the sign or leaves the thing."""
    wanted, unwanted, asks = (), (), []
    for thing, is_wanted in signs:
        more = ((*wanted, thing), unwanted) if is_wanted else (wanted, (*unwanted, thing))
        answer = keeps(family, *more)
        asks.append((tuple(sorted(more[0])), tuple(sorted(more[1])), answer))
        if answer:
            wanted, unwanted = more
        elif is_turned:
            wanted, unwanted = (wanted, (*unwanted, thing)) if is_wanted else ((*wanted, thing), unwanted)
    return asks, tuple(sorted(wanted)), len(wanted + unwanted)


def families():
    yield from small_families()
    yield from chosen_families((4, 5), 3)


class AskerTest(Case):
    def test_asks_are_counted(self):
        family = Family.of(3, (0,), (1, 2))
        asker = Asker(family)
        self.assertIs(asker.family, family)
        self.assert_same(asker.asked, 0)
        self.assert_same([asker.ask(((0,), ())), asker.ask([[0], (2,)]), asker.ask(Pair((), (0, 1)))], [True, True, False])
        self.assert_same(asker.asked, 3)
        self.assert_same([asker.ask_inside([2, 1]), asker.ask_inside((1,))], [True, False])
        self.assert_same(asker.asked, 5)

    def test_asks_are_about_kept_pairs_and_lots(self):
        for family in families():
            asker = Asker(family)
            pairs = all_pairs(family.size)[::7]
            for pair in pairs:
                self.assert_same(asker.ask(pair), keeps(family, pair.wanted, pair.unwanted))
            for lot in every_lot(family.size):
                self.assert_same(asker.ask_inside(list(lot)[::-1]), lot in list(family))
            self.assert_same(asker.asked, len(pairs) + 2 ** family.size)

    def test_an_error_is_no_ask(self):
        asker = Asker(Family.everything(3))
        for pair, error in (
            (None, BadPair(-1)), ((), BadPair(-1)), ((None, None), BadLot(-1)), (((0,), (1, 3)), BadLot(1)),
            (((0, 1), (2, 1)), BadPair(1)), (Pair((3,), ()), BadLot(0)),
        ):
            self.assert_error(error, asker.ask, pair)
        for lot, place in ((None, -1), ((0, 3), 1), ((1, 1), 1), ([True], 0)):
            self.assert_error(BadLot(place), asker.ask_inside, lot)
        self.assert_same(asker.asked, 0)


class FindersTest(Case):
    def test_point_139_find_lot(self):
        for family in families():
            asker = Watched(family)
            asks, lot, _ = true_asks(family, [(x, True) for x in range(family.size)], True)
            self.assert_same(find_lot(asker, family.size), lot)
            self.assert_same((asker.pairs, asker.asked), (asks, family.size))
            self.assertTrue(family.has(lot))

    def test_point_139_find_best(self):
        for family in [*families(), *gated_sample()]:
            for numbers in some_wishes(family.size, 1):
                asker = Watched(family)
                order = sorted(range(family.size), key=lambda x: (-abs(numbers[x]), x))
                asks, lot, _ = true_asks(family, [(x, numbers[x] > 0) for x in order], True)
                self.assert_same(find_best(asker, numbers), lot)
                self.assert_same((asker.pairs, asker.asked), (asks, family.size))
                self.assertEqual(lot, book(family, numbers))
                if is_gated(family):
                    self.assertIn(lot, best_lots(family, numbers))
                self.assertEqual(find_best(asker, Wish(*numbers)), lot)
                self.assertEqual(find_best(asker, list(numbers)), lot)

    def test_point_139_find_depth(self):
        seen = set()
        for family in [*families(), *gated_sample()]:
            for lot in every_lot(family.size):
                asker = Watched(family)
                asks, _, settled = true_asks(family, [(x, x in lot) for x in range(family.size)], False)
                found = find_depth(asker, list(lot)[::-1], family.size)
                self.assert_same(found, family.size - settled)
                self.assert_same((asker.pairs, asker.asked), (asks, family.size))
                depth = true_depth(family, lot)
                self.assertGreaterEqual(found, depth)
                self.assertTrue(found == depth or not is_gated(family))
                seen.add(found == depth)
        self.assertEqual(seen, {True, False})

    def test_sizes_1_and_10(self):
        asker = Asker(Family.sized(10, 4, 6))
        self.assert_same(find_lot(asker, 10), (0, 1, 2, 3, 4, 5))
        self.assert_same(find_best(asker, [5, -7, 1, 0, 0, -1, 3, 3, -9, 2]), (0, 2, 6, 7, 9))
        self.assert_same(find_depth(asker, (7,), 10), 3)
        self.assert_same(asker.asked, 30)
        one = Asker(Family.of(1, (0,)))
        self.assert_same([find_lot(one, 1), find_best(one, (-3,)), find_depth(one, (), 1), one.asked], [(0,), (0,), 1, 3])

    def test_errors_and_their_order(self):
        asker = Asker(Family.everything(3))
        for size in (None, True, 2, 4, 0, -1, 11, "3", 3.0):
            self.assert_error(BadNumber("size"), find_lot, asker, size)
            self.assert_error(BadNumber("size"), find_depth, asker, None, size)
        self.assert_error(BadNumber("size"), find_lot, Asker(Family.everything(1)), True)
        for lot, place in ((None, -1), ((0, 3), 1), ((1, 1), 1), ([True], 0)):
            self.assert_error(BadLot(place), find_depth, asker, lot, 3)
        for wish, place in ((None, -1), ((), -2), ((1, 2), -2), ((1, 2, None), 2), ((True, 0, 0), 0), (Wish(1), -2)):
            self.assert_error(BadWish(place), find_best, asker, wish)
        self.assert_same(asker.asked, 0)


class ToldApartTest(Case):
    def check(self, one, other):
        found = told_apart(one, other)
        expected = next((
            pair for pair in all_pairs(one.size)
            if keeps(one, pair.wanted, pair.unwanted) != keeps(other, pair.wanted, pair.unwanted)
        ), None)
        self.assertEqual(found is None, one == other)
        if found is not None:
            self.assertIs(type(found), Pair)
            self.assert_same((found.wanted, found.unwanted), (expected.wanted, expected.unwanted))
            self.assertNotEqual(is_kept(one, found), is_kept(other, found))
        else:
            self.assertIsNone(expected)

    def test_point_140_all_small_families(self):
        ones = list(small_families())
        for one, other in itertools.combinations_with_replacement(ones, 2):
            if one.size == other.size:
                self.assertEqual(told_apart(one, other) is None, one == other)
        for one, other in itertools.product(ones[::5], ones[::7]):
            if one.size == other.size:
                self.check(one, other)

    def test_point_140_larger_families(self):
        for size in (4, 5):
            row = list(chosen_families((size,), 6))
            for one, other in itertools.product(row, row):
                self.check(one, other)
            for family in row:
                self.check(family, Family(size, family.lots[::-1]))
                if len(family) > 1:
                    self.check(family, Family(size, family.lots[1:]))

    def test_errors_and_their_order(self):
        self.assert_error(OtherSize(7), told_apart, Family.everything(8), Family.everything(7))
        self.assert_error(OtherSize(2), told_apart, Family.everything(3), Family.everything(2))
        self.assert_error(TooMany("things"), told_apart, Family.everything(7), Family.everything(7))
        self.assert_error(TooMany("things"), told_apart, Family.of(7, ()), Family.everything(7))
        self.assertIsNone(told_apart(Family.everything(6), Family.everything(6)))
        self.assert_same(told_apart(Family.of(1, ()), Family.of(1, (0,))).unwanted, (0,))
