import itertools

from tests.helpers import (
    Case, chosen_families, every_family, every_lot, gated_families, gated_row, plus, small_families,
)
from turnlots.breaks import is_gated
from turnlots.errors import BadLot, BadNumber, BadPair, BadThing
from turnlots.families import Family
from turnlots.gates import nearest
from turnlots.met import (
    Meter, Pair, is_kept, keeper, lot_met, met, met_lots, reach, signed_pair,
)


def true_pairs(size):
    return [
        (one, other) for one in every_lot(size) for other in every_lot(size)
        if not set(one) & set(other)
    ]


def true_agreeing(pair, lot):
    return len(set(pair[0]) & set(lot)) + len(set(pair[1]) - set(lot))


def true_met(family, pair):
    return max(true_agreeing(pair, lot) for lot in family.lots)


def signed(pair, *things):
    """The pair with signed things put in: x wanted, -1 - x unwanted."""
    wanted = [*pair[0], *[x for x in things if x >= 0]]
    return tuple(sorted(wanted)), tuple(sorted([*pair[1], *[-1 - x for x in things if x < 0]]))


def families_up_to_4():
    yield from small_families()
    yield from every_family(4, 1999)
    yield from chosen_families((4,), 4)


class PairTest(Case):
    def test_point_35_a_pair_of_two_lots(self):
        wanted, unwanted = [30, 1], (7, 0)
        pair = Pair(wanted, unwanted)
        wanted.append(5)
        self.assert_same([pair.wanted, pair.unwanted], [(1, 30), (0, 7)])
        self.assertEqual(len(pair), 4)
        self.assertEqual(len(Pair((), ())), 0)
        self.assertEqual(list(Pair.__slots__), ["wanted", "unwanted"])
        self.assertFalse(hasattr(pair, "__dict__"))

    def test_wrong_lots(self):
        for wanted, unwanted, error in (
            (None, None, BadLot(-1)), ((0, -1), "x", BadLot(1)), ((True,), (), BadLot(0)),
            ((), {1}, BadLot(-1)), ((3, 3), (3, 3, 3), BadLot(1)), ((), (5, 1, 5), BadLot(2)),
            ((0,), ("0",), BadLot(0)), ([9, 4, 2], [4, 9], BadPair(4)), ((0,), (0,), BadPair(0)),
        ):
            self.assert_error(error, Pair, wanted, unwanted)

    def test_full(self):
        pair = Pair.full([3, 1], 4)
        self.assert_same([pair.wanted, pair.unwanted], [(1, 3), (0, 2)])
        self.assertEqual(Pair.full((), 1), Pair((), (0,)))
        self.assertEqual(Pair.full(range_lot(10), 10), Pair(range_lot(10), ()))
        for size in (0, 11, True, None, "2"):
            self.assert_error(BadNumber("size"), Pair.full, None, size)
        self.assert_error(BadLot(-1), Pair.full, None, 3)
        self.assert_error(BadLot(1), Pair.full, (0, 3), 3)

    def test_operators(self):
        one, other = Pair((0, 1, 9), (2, 3)), Pair((1, 2), (3, 0))
        self.assertEqual(~one, Pair((2, 3), (0, 1, 9)))
        self.assertEqual(one & other, Pair((1,), (3,)))
        self.assertEqual(one | Pair((9, 4), (7, 2)), Pair((0, 1, 4, 9), (2, 3, 7)))
        self.assert_error(BadPair(0), lambda: one | other)
        self.assert_error(BadPair(2), lambda: Pair((2,), (5,)) | Pair((5,), (2,)))
        self.assert_error(BadPair(9), lambda: Pair((), (9,)) | one)
        self.assertEqual(one | one, one)
        self.assertEqual(one & ~one, Pair((), ()))
        self.assertEqual([one, other], [Pair((0, 1, 9), (2, 3)), Pair((1, 2), (3, 0))])

    def test_equal_pairs(self):
        pair = Pair((1, 0), (2,))
        self.assertIs(pair == Pair([0, 1], [2]), True)
        self.assertIs(pair != Pair([0, 1], [2]), False)
        for other in (((0, 1), (2,)), Pair((2,), (0, 1)), Pair((0, 1), ()), None, Family.of(1, ())):
            self.assertIs(pair == other, False)
            self.assertIs(pair != other, True)

    def test_lots_that_keep_a_pair(self):
        pair = Pair((1, 30), (2,))
        for lot in ((1, 30), [30, 5, 1], (0, 1, 30, 99)):
            self.assertIs(lot in pair, True)
        for lot in ((1,), (1, 2, 30), (1, 30, 30), (1, 30, -1), None, "1", 1, (True, 30), {1, 30}, pair):
            self.assertIs(lot in pair, False)
        self.assertIs(() in Pair((), ()), True)
        self.assertIs([] in Pair((), (0,)), True)

    def test_turned(self):
        pair = Pair((0, 1), (2, 7))
        self.assertEqual(pair.turned([7, 1, 5]), Pair((0, 7), (1, 2)))
        self.assertEqual(pair.turned(()), pair)
        self.assertEqual(pair.turned((0, 1, 2, 7)), ~pair)
        self.assertEqual(pair, Pair((0, 1), (2, 7)))
        self.assert_error(BadLot(-1), pair.turned, None)
        self.assert_error(BadLot(1), pair.turned, (1, 1))
        self.assert_error(BadLot(0), pair.turned, (-1,))

    def test_with_and_without_a_thing(self):
        pair = Pair((3,), (1,))
        self.assertEqual(pair.without(3), Pair((), (1,)))
        self.assertEqual(pair.without(1), Pair((3,), ()))
        self.assertEqual(pair.without(10 ** 30), pair)
        self.assertEqual(pair.with_wanted(0), Pair((0, 3), (1,)))
        self.assertEqual(pair.with_unwanted(5), Pair((3,), (1, 5)))
        self.assertEqual(pair, Pair((3,), (1,)))
        for method in (pair.without, pair.with_wanted, pair.with_unwanted):
            for thing in (-1, True, None, "3", 3.0, (3,)):
                self.assert_error(BadThing(thing), method, thing)
        for method in (pair.with_wanted, pair.with_unwanted):
            for thing in (1, 3):
                self.assert_error(BadPair(thing), method, thing)


class AskedPairTest(Case):
    def test_a_pair_is_given_in_three_ways(self):
        for pair in (((1, 0), [2]), [[0, 1], (2,)], Pair((0, 1), (2,))):
            self.assertEqual(signed_pair(pair, 3), Pair((0, 1), (2,)))
            self.assertIsInstance(signed_pair(pair, 3), Pair)

    def test_errors_and_their_order(self):
        for size in (0, 11, True, None, "3"):
            self.assert_error(BadNumber("size"), signed_pair, None, size)
        cases = (
            (None, BadPair(-1)), ((), BadPair(-1)), (((), (), ()), BadPair(-1)), ("ab", BadPair(-1)),
            ({(): (), (0,): ()}, BadPair(-1)), (((0, 3), None), BadLot(1)), (((0,), None), BadLot(-1)),
            (((0,), (1, 1)), BadLot(1)), (((2, 1, 0), (1, 2)), BadPair(1)), ((0, 1), BadLot(-1)),
            (Pair((9, 1), (0, 8)), BadLot(1)), (Pair((1,), (8, 0)), BadLot(1)), (Pair((3,), ()), BadLot(0)),
        )
        family = Family.of(3, ())
        for pair, error in cases:
            self.assert_error(error, signed_pair, pair, 3)
            for function in (met, reach, met_lots, is_kept, keeper):
                self.assert_error(error, function, family, pair)
            self.assert_error(error, Meter(family), pair)

    def test_lot_met_is_without_a_size(self):
        self.assert_same(lot_met(((100, 1), [2]), [1, 50]), 2)
        self.assert_same(lot_met(Pair((), ()), ()), 0)
        self.assert_same(lot_met(Pair((4,), (7, 9)), (9,)), 1)
        for pair, lot, error in (
            (None, None, BadPair(-1)), (((-1,), None), None, BadLot(0)), (((), None), None, BadLot(-1)),
            (((5, 1), (1, 5)), None, BadPair(1)), (((), ()), None, BadLot(-1)), (((), ()), (3, 3), BadLot(1)),
        ):
            self.assert_error(error, lot_met, pair, lot)


class MetTest(Case):
    def test_point_35_what_is_met_by_counting(self):
        for family in families_up_to_4():
            meter = Meter(family)
            self.assertIs(meter.family, family)
            for pair in true_pairs(family.size):
                self.check_pair(family, meter, pair)

    def check_pair(self, family, meter, pair):
        most = true_met(family, pair)
        self.assert_same(met(family, pair), most)
        self.assert_same(meter(Pair(*pair)), most)
        wanted, unwanted = set(pair[0]), set(pair[1])
        best = max(len(wanted & set(lot)) - len(unwanted & set(lot)) for lot in family.lots)
        self.assert_same(reach(family, pair), best)
        self.assertEqual(best, most - len(unwanted))
        lots = [lot for lot in family.lots if true_agreeing(pair, lot) == most]
        self.assert_same(met_lots(family, pair), lots)
        for lot in family.lots[:2]:
            self.assert_same(lot_met(pair, lot), true_agreeing(pair, lot))
        keepers = [lot for lot in family.lots if wanted <= set(lot) and not unwanted & set(lot)]
        self.assert_same(keeper(family, pair), keepers[0] if keepers else None)
        self.assert_same(is_kept(family, pair), bool(keepers))
        self.assertEqual([lot for lot in family.lots if lot in Pair(*pair)], keepers)

    def test_point_36_bounds_and_steps(self):
        for family in families_up_to_4():
            for pair in true_pairs(family.size):
                here = met(family, pair)
                things = pair[0] + pair[1]
                self.assertLessEqual(here, len(things))
                self.assertEqual(here == len(things), is_kept(family, pair))
                for x in range(family.size):
                    if x not in things:
                        more = [met(family, signed(pair, x)), met(family, signed(pair, -1 - x))]
                        self.assertTrue(set(more) <= {here, here + 1})
                        self.assertGreaterEqual(sum(more), 2 * here + 1)
                apart = reach(family, (pair[0], ())) + reach(family, ((), pair[1]))
                self.assertLessEqual(reach(family, pair), apart)

    def test_point_36_full_pairs(self):
        for family in families_up_to_4():
            for lot in every_lot(family.size):
                pair = Pair.full(lot, family.size)
                self.assertEqual(family.depth(lot), family.size - met(family, pair))
                self.assertEqual(family.has(lot), reach(family, pair) == len(lot))
                self.assertEqual(met_lots(family, pair), nearest(family, lot))

    def test_point_36_turned_and_side_by_side(self):
        families = [*small_families()][::25]
        for family in families:
            for turn in every_lot(family.size):
                for pair in true_pairs(family.size):
                    there = met(family, Pair(*pair).turned(turn))
                    self.assertEqual(met(family ^ turn, pair), there)
        for one, other in itertools.product(families[:5], families[-3:]):
            beside = one * other
            for pair in true_pairs(beside.size)[::5]:
                low = [tuple(x for x in lot if x < one.size) for lot in pair]
                high = [tuple(x - one.size for x in lot if x >= one.size) for lot in pair]
                self.assertEqual(met(beside, pair), met(one, low) + met(other, high))

    def test_sizes_1_and_10(self):
        self.assert_same(met(Family.of(1, (0,)), ((), (0,))), 0)
        self.assert_same(reach(Family.of(1, (0,)), ((), (0,))), -1)
        things = range_lot(10)
        self.assert_same(met(Family.sized(10, 5, 5), (things, ())), 5)
        self.assertEqual(len(met_lots(Family.sized(10, 5, 5), Pair(things, ()))), 252)
        self.assert_same(keeper(Family.everything(10), ((9,), (0,))), (1, 2, 3, 4, 5, 6, 7, 8, 9))
        self.assert_same(keeper(Family.of(4, (1,), (0, 2)), ((), ())), (0, 2))

    def test_point_37_met_bends_just_in_gated_families(self):
        for family in [*small_families(), *every_family(4, 3301), *gated_families(4)[::600]]:
            self.assertEqual(self.bends(family), is_gated(family))

    def bends(self, family):
        for pair in true_pairs(family.size):
            free = [x for x in range(family.size) if x not in pair[0] + pair[1]]
            for x, y in itertools.combinations(free, 2):
                for s, t in itertools.product((x, -1 - x), (y, -1 - y)):
                    one, two = met(family, signed(pair, s)), met(family, signed(pair, t))
                    if one + two < met(family, pair) + met(family, signed(pair, s, t)):
                        return False
        return True

    def test_point_37_some_lot_that_reaches_met_agrees_wherever_a_lot_agrees(self):
        for family in [*gated_families(3)[::3], *gated_families(4)[::700], *gated_row(4)]:
            for pair in true_pairs(family.size):
                best = [set(plus(lot, pair[0])) for lot in met_lots(family, pair)]
                things = set(pair[0] + pair[1])
                for lot in family.lots:
                    missed = set(plus(lot, pair[0])) & things
                    self.assertTrue(any(other & things <= missed for other in best))

    def test_point_1_answers_are_new(self):
        self.assert_new(met_lots, Family.of(3, (0,), (1, 2)), ((), ()))


def range_lot(size):
    return tuple(range(size))
