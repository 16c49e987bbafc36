import itertools

from tests.helpers import Case, chosen_families, every_family, gated_families, small_families
from tests.test_book import some_wishes, worth_of
from turnlots.book import best_value
from turnlots.errors import BadThing, BadWish
from turnlots.families import Family
from turnlots.four import crossed, four_bests
from turnlots.small import small_table
from turnlots.wishes import Wish


def true_bests(family, wish, x, y):
    kinds = ((True, True), (False, False), (True, False), (False, True))
    return tuple(
        max((worth_of(wish, lot) for lot in family if (x in lot, y in lot) == kind), default=None)
        for kind in kinds
    )


def true_crossed(bests):
    first = None if None in bests[:2] else bests[0] + bests[1]
    second = None if None in bests[2:] else bests[2] + bests[3]
    if first is None or second is None:
        return "less" if first is None else "more"
    return "less" if first < second else "more" if first > second else "equal"


def families():
    yield from small_families()
    yield from gated_families(4)[::200]
    yield from every_family(4, 5003)
    yield from chosen_families((5, 6), 1)


class FourBestsTest(Case):
    def test_point_70_four_bests_and_crossed(self):
        for family in families():
            for wish in some_wishes(family.size, 2):
                for x, y in itertools.permutations(range(family.size), 2):
                    bests = true_bests(family, wish, x, y)
                    self.assert_same(four_bests(family, list(wish), x, y), bests)
                    loose = x in family.loose() and y in family.loose()
                    expected = true_crossed(bests) if loose else None
                    self.assert_same(crossed(family, Wish(*wish), x, y), expected)

    def test_point_70_one_sum_has_no_missing_best(self):
        for family in families():
            for x, y in itertools.combinations(family.loose(), 2):
                bests = true_bests(family, (0,) * family.size, x, y)
                self.assertTrue(None not in bests[:2] or None not in bests[2:])

    def test_point_70_missing_bests(self):
        family = Family.of(3, (0,), (1,))
        self.assert_same(four_bests(family, (5, 3, 9), 0, 1), (None, None, 5, 3))
        self.assert_same(crossed(family, (5, 3, 9), 0, 1), "less")
        self.assert_same(four_bests(family, (5, 3, 9), 2, 0), (None, 3, None, 5))
        self.assert_same(crossed(family ^ (1,), (5, 3, 9), 0, 1), "more")
        self.assert_same(crossed(Family.everything(2), (-10 ** 30, 10 ** 28), 1, 0), "equal")
        for x, y in ((0, 2), (2, 0)):
            self.assertIsNone(crossed(family, (5, 3, 9), x, y))
        # a missing best is less than any integer, also than one far below 0
        low = Family.of(2, (), (0, 1), (0,))
        self.assert_same(crossed(low, (-10 ** 30, -10 ** 30), 0, 1), "more")

    def test_point_70_bests_of_small_tables(self):
        for family in families():
            for wish in some_wishes(family.size, 1) if family.size > 2 else ():
                for x, y in itertools.combinations(range(family.size), 2):
                    self.check_tables(family, wish, x, y)

    def check_tables(self, family, wish, x, y):
        rest = [number for z, number in enumerate(wish) if z not in (x, y)]
        pairs = (((x, y), ()), ((), (x, y)), ((x,), (y,)), ((y,), (x,)))
        for best, (inside, out) in zip(four_bests(family, wish, x, y), pairs):
            if best is not None:
                table = small_table(family, inside=inside, out=out)
                self.assertEqual(best, best_value(table, rest) + worth_of(wish, inside))


class ErrorsTest(Case):
    def test_errors_and_their_order(self):
        family = Family.of(2, (0,), (1,))
        for call in (four_bests, crossed):
            for wish, place in ((None, -1), ((1,), -2), ((1, None), 1)):
                self.assert_error(BadWish(place), call, family, wish, 7, 8)
            for thing in (-1, 2, True, None, "0"):
                self.assert_error(BadThing(thing), call, family, (1, 2), thing, None)
                self.assert_error(BadThing(thing), call, family, (1, 2), 0, thing)
            self.assert_error(BadThing(1), call, family, (1, 2), 1, 1)
