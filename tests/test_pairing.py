import itertools

from tests.helpers import (
    Case, chosen_families, every_family, every_lot, plus, small_families,
)
from tests.test_even import even_gated, every_web, some_webs
from turnlots.breaks import is_gated
from turnlots.errors import BadLot, BadThing, NotInside
from turnlots.even import Web, is_even, web_at
from turnlots.families import Family
from turnlots.pairing import (
    apart_pairing, both_partner, greatest_pairing, pairing_count, pairings, pairs_up,
)


def true_pairings(web, lot):
    """All sets of links that have each thing of the lot once and no other thing: point 94."""
    if len(lot) % 2:
        return []
    return [
        links for links in itertools.combinations(web.links, len(lot) // 2)
        if sorted(x for link in links for x in link) == sorted(lot)
    ]


def true_greatest(web, lot):
    inside = [link for link in web.links if set(link) <= set(lot)]
    return max(
        many for many in range(len(lot) // 2 + 1) for links in itertools.combinations(inside, many)
        if len({x for link in links for x in link}) == 2 * many
    )


def webs():
    for size in (1, 2, 3, 4):
        yield from every_web(size)
    yield from some_webs((5, 6), 6)


def whole_web(size):
    return Web(size, list(itertools.combinations(range(size), 2)))


class PairingsTest(Case):
    def test_point_94_pairings(self):
        for web in webs():
            for lot in every_lot(web.size):
                found = true_pairings(web, lot)
                self.assert_same(pairings(web, list(lot)[::-1]), found)
                self.assert_same(pairing_count(web, lot), len(found))
                self.assert_same(pairs_up(web, lot), found != [])
                self.assert_same(greatest_pairing(web, list(lot)), true_greatest(web, lot))

    def test_point_94_edges(self):
        none = Web(10, ())
        self.assert_same(pairings(none, ()), [()])
        self.assert_same(pairings(none, (0, 1)), [])
        self.assert_same(greatest_pairing(none, tuple(range(10))), 0)
        self.assert_same(pairings(Web(1, ()), (0,)), [])
        self.assert_same(pairs_up(none, []), True)
        ten, everything = whole_web(10), tuple(range(10))
        self.assert_same(pairing_count(ten, everything), 945)
        self.assert_same(pairings(ten, everything)[0], ((0, 1), (2, 3), (4, 5), (6, 7), (8, 9)))
        self.assert_same(greatest_pairing(ten, everything[1:]), 4)
        self.assert_same(pairs_up(ten, everything[1:]), False)

    def test_point_1_answers_are_new(self):
        self.assert_new(pairings, whole_web(4), (0, 1, 2, 3))

    def test_lots_that_are_wrong(self):
        web = Web(3, [(0, 1)])
        for lot, place in ((None, -1), ("01", -1), ((0, 3), 1), ((1, 1), 1), ([True], 0)):
            for call in (pairings, pairing_count, pairs_up, greatest_pairing):
                self.assert_error(BadLot(place), call, web, lot)


def families():
    yield from small_families()
    yield from itertools.islice(even_gated(), 0, None, 3)
    yield from every_family(4, 3001)
    yield from chosen_families((5,), 1)


class ApartTest(Case):
    def test_point_94_the_first_pairing_of_what_is_apart(self):
        for family in families():
            for one, other in itertools.product(family.lots[:8], family.lots[-8:]):
                found = true_pairings(web_at(family, one), plus(one, other))
                expected = found[0] if found else None
                self.assert_same(apart_pairing(family, list(one)[::-1], other), expected)

    def test_point_95_even_and_gated_exactly_if_all_that_is_apart_pairs_up(self):
        for family in [*small_families(), *even_gated(), *every_family(4, 601)]:
            told = all(
                apart_pairing(family, one, other) is not None
                for one, other in itertools.product(family.lots, family.lots)
            )
            self.assertEqual(told, is_even(family) and is_gated(family))

    def test_point_95_one_pairing_or_more(self):
        seen = set()
        for family in even_gated():
            for lot in family.lots[:6]:
                web = web_at(family, lot)
                for things in every_lot(family.size):
                    count = pairing_count(web, things)
                    inside = plus(lot, things) in family.lots
                    self.assertTrue(count == 1 or count > 1 or not inside)
                    self.assertTrue(count != 1 or inside)
                    seen.add((min(count, 2), inside))
        self.assertEqual(seen, {(0, False), (1, True), (2, True), (2, False)})

    def test_errors_and_their_order(self):
        family = Family.of(3, (0,), (1,))
        for one, other, error in (
            (None, None, BadLot(-1)), ((0, 3), None, BadLot(1)), ((2,), (1, 1), BadLot(1)),
            ([2, 0], (2,), NotInside((0, 2))), ((0,), [2, 0], NotInside((0, 2))),
        ):
            self.assert_error(error, apart_pairing, family, one, other)


class BothPartnerTest(Case):
    def true_partner(self, family, one, other, x):
        lots = set(family.lots)
        found = [
            y for y in plus(one, other)
            if y != x and plus(one, (x, y)) in lots and plus(other, (x, y)) in lots
        ]
        return min(found, default=None)

    def test_point_96_the_least_partner_for_both(self):
        for family in families():
            for one, other in itertools.product(family.lots[:8], family.lots[-8:]):
                for x in plus(one, other):
                    expected = self.true_partner(family, one, other, x)
                    self.assert_same(both_partner(family, list(one)[::-1], other, x), expected)

    def test_point_96_even_and_gated_exactly_if_there_always_is_one(self):
        for family in [*small_families(), *even_gated(), *every_family(4, 601)]:
            told = all(
                both_partner(family, one, other, x) is not None
                for one, other in itertools.product(family.lots, family.lots)
                for x in plus(one, other)
            )
            self.assertEqual(told, is_even(family) and is_gated(family))

    def test_a_thing_is_no_partner_of_itself(self):
        self.assertIsNone(both_partner(Family.everything(1), (), (0,), 0))
        self.assert_same(both_partner(Family.everything(2), (), (0, 1), 1), 0)

    def test_errors_and_their_order(self):
        family = Family.of(3, (0,), (1,), (0, 1, 2))
        for one, other, thing, error in (
            (None, None, None, BadLot(-1)), ((0,), (0, 3), None, BadLot(1)), ((2,), (1,), 3, BadThing(3)),
            ((2,), (1,), True, BadThing(True)), ((2,), (1,), 0, BadThing(0)), ((0,), (0,), 0, BadThing(0)),
            ((2,), (0, 2), 0, NotInside((2,))), ((1,), [2, 1], 2, NotInside((1, 2))),
        ):
            self.assert_error(error, both_partner, family, one, other, thing)
