import itertools

from tests.helpers import (
    Case, chosen_families, every_even_family, every_lot, plus, small_families, true_depth, true_nearest,
)
from tests.test_book import some_wishes
from tests.test_critical import true_critical
from tests.test_even import even_gated, every_web, some_webs, true_is_even, true_parts
from tests.test_pairing import true_greatest, true_pairings
from tests.whole import cut_lots, true_is_glued
from turnlots.breaks import is_gated
from turnlots.depths import lowers
from turnlots.errors import BadLot, NotInside, NotWhole
from turnlots.even import Web, web_at
from turnlots.families import Family
from turnlots.nets import is_net_at, missed, net_at, net_family, net_glued, odd_parts, reached_from
from turnlots.onelot import fullest_at, is_turned_matroid
from turnlots.partings import finest
from turnlots.sides import right_sides


def webs():
    for size in (1, 2, 3, 4):
        yield from every_web(size)
    yield from some_webs((5, 6), 10)


def whole_web(size):
    return Web(size, list(itertools.combinations(range(size), 2)))


def row_web(size):
    return Web(size, [(x, x + 1) for x in range(size - 1)])


def true_net(web):
    return [lot for lot in every_lot(web.size) if true_pairings(web, lot)]


def true_missed(web, lot):
    """The things that some greatest pairing within the lot has no link with: point 137."""
    many = true_greatest(web, lot)
    inside = [link for link in web.links if set(link) <= set(lot)]
    covers = [
        {x for link in links for x in link} for links in itertools.combinations(inside, many)
        if len({x for link in links for x in link}) == 2 * many
    ]
    return tuple(x for x in lot if any(x not in cover for cover in covers))


def true_odd_parts(web, lot):
    things = true_missed(web, lot)
    part_web = Web(web.size, [link for link in web.links if set(link) <= set(things)])
    return tuple(part for part in true_parts(part_web) if part[0] in things)


class NetTest(Case):
    def test_point_136_nets_by_counting_pairings(self):
        for web in webs():
            net = net_family(web)
            self.assertIs(type(net), Family)
            self.assert_same((net.size, list(net)), (web.size, true_net(web)))
            self.assertTrue(net.has(()) and true_is_even(net) and is_gated(net))
            self.assertEqual(web_at(net, ()), web)

    def test_point_136_the_net_has_the_most_lots(self):
        for family in even_gated():
            for lot in family.lots[:4]:
                net = net_family(web_at(family, lot))
                self.assertTrue(set(family ^ lot) <= set(net))
                self.assertEqual(fullest_at(family, lot), net ^ lot)

    def test_point_136_where_a_family_is_a_net(self):
        seen = set()
        evens = itertools.islice(every_even_family(4), 0, None, 3)
        for family in [*even_gated(), *small_families(), *evens, *chosen_families((4, 5), 4)]:
            told = [
                lot for lot in family
                if sorted(plus(lot, row) for row in family) == true_net(web_at(family, lot))
            ]
            for lot in family:
                self.assert_same(is_net_at(family, list(lot)[::-1]), lot in told)
                if is_gated(family) and true_is_even(family):
                    self.assertEqual(lot in told, fullest_at(family, lot) == family)
            self.assert_same(net_at(family), told[0] if told else None)
            seen.add(0 if not told else 2 if len(told) == len(family) else 1)
        self.assertEqual(seen, {0, 1, 2})

    def test_sizes_1_and_10_and_a_web_without_links(self):
        self.assertEqual(net_family(Web(1, ())), Family.of(1, ()))
        self.assertEqual(net_family(Web(10, ())), Family.of(10, ()))
        even = Family(10, [lot for lot in every_lot(10) if len(lot) % 2 == 0])
        self.assertEqual(net_family(whole_web(10)), even)
        self.assert_same([is_net_at(even, (3, 7)), net_at(even), net_at(Family.everything(10))], [True, (), None])
        self.assert_same([is_net_at(Family.of(1, (0,)), (0,)), net_at(Family.of(1, (0,)))], [True, (0,)])
        self.assert_same(net_at(Family.sized(10, 5, 5)), (0, 1, 2, 3, 4))

    def test_errors_and_their_order(self):
        family = Family.of(3, (0,), (1,))
        for lot, error in ((None, BadLot(-1)), ((0, 3), BadLot(1)), ((1, 1), BadLot(1)), ([2, 0], NotInside((0, 2)))):
            self.assert_error(error, is_net_at, family, lot)
        self.assert_error(NotInside((0, 2)), is_net_at, Family.of(3, (0,), (0, 1)), [2, 0])


class MissedTest(Case):
    def test_point_137_missed_things_and_odd_parts(self):
        for web in webs():
            for lot in every_lot(web.size):
                told, things = list(lot)[::-1], true_missed(web, lot)
                self.assert_same(missed(web, told), things)
                self.assert_same(odd_parts(web, told), true_odd_parts(web, lot))
                reached = tuple(
                    y for y in range(web.size) if y not in lot and any((x, y) in web for x in things)
                )
                self.assert_same(reached_from(web, told), reached)

    def test_point_137_depths_in_a_net(self):
        for web in itertools.islice(webs(), 0, None, 2):
            net = net_family(web)
            for lot in every_lot(web.size):
                depth = true_depth(net, lot)
                self.assertEqual(depth, len(lot) - 2 * true_greatest(web, lot))
                parts = odd_parts(web, lot)
                self.assertLessEqual(depth, len(parts))
                self.assertEqual(lowers(net, lot), tuple(sorted(missed(web, lot) + reached_from(web, lot))))
                for near in true_nearest(net, lot):
                    for part in parts:
                        self.assertLess(len(set(plus(lot, near)) & set(part)), 2)

    def test_sizes_1_and_10(self):
        one = Web(1, ())
        self.assert_same([missed(one, (0,)), odd_parts(one, [0]), reached_from(one, (0,))], [(0,), ((0,),), ()])
        self.assert_same([missed(one, ()), odd_parts(one, ()), reached_from(one, ())], [(), (), ()])
        ten = whole_web(10)
        nine = tuple(range(9))
        self.assert_same([missed(ten, nine), odd_parts(ten, nine), reached_from(ten, nine)], [nine, (nine,), (9,)])
        self.assert_same(missed(ten, tuple(range(10))), ())
        self.assert_same(odd_parts(row_web(10), nine), tuple((x,) for x in nine[::2]))

    def test_lots_that_are_wrong(self):
        web = Web(3, [(0, 1)])
        for lot, place in ((None, -1), ("01", -1), ((0, 3), 1), ((1, 1), 1), ([True], 0)):
            for call in (missed, odd_parts, reached_from):
                self.assert_error(BadLot(place), call, web, lot)


class NetGluedTest(Case):
    def test_point_138_parts_and_sides(self):
        for web in webs():
            net = net_family(web)
            self.assertEqual(finest(net), web.web_parts())
            sides = [
                lot for lot in every_lot(web.size) if all((x in lot) != (y in lot) for x, y in web)
            ]
            self.assertEqual(right_sides(net), sides)
            self.assertEqual(is_turned_matroid(net), sides != [])

    def test_point_138_glued_by_the_links(self):
        seen = {True: 0, False: 0}
        for web in [*webs(), *(row_web(n) for n in (5, 6, 7)), *(whole_web(n) for n in (5, 6))]:
            net = net_family(web)
            for lot in cut_lots(web.size):
                if len(web.web_parts()) == 1:
                    told = true_is_glued(net, lot)
                    self.assert_same(net_glued(web, list(lot)[::-1]), told)
                    seen[told] += 1
                else:
                    self.assert_error(NotWhole(web.web_parts()[0]), net_glued, web, lot)
        self.assertGreater(min(seen.values()), 100)

    def test_point_138_reasons(self):
        for web in itertools.islice(webs(), 0, None, 3):
            net = net_family(web)
            parts = {x: part for part in true_parts(web) for x in part}
            for wish in some_wishes(web.size, 1):
                for x in net.loose():
                    value = true_critical(net, wish, x)
                    self.assertIn(abs(value), [abs(wish[y]) for y in parts[x] if y != x])

    def test_sizes_below_4_and_size_10(self):
        for size in (1, 2, 3):
            for lot in every_lot(size):
                self.assert_error(BadLot(-1), net_glued, Web(size, ()), lot)
        self.assert_same(net_glued(whole_web(10), (3, 6, 9)), True)
        self.assert_same(net_glued(row_web(10), (0, 1, 2)), True)
        self.assert_same(net_glued(row_web(10), (0, 2)), False)

    def test_errors_and_their_order(self):
        web = Web(5, [(0, 1), (2, 3)])
        for lot, place in (
            (None, -1), ((0, 5), 1), ((1, 1), 1), ([True], 0), ((), -1), ((0,), -1), ((0, 1, 2, 3), -1), ((0, 1, 2, 3, 4), -1),
        ):
            self.assert_error(BadLot(place), net_glued, web, lot)
        self.assert_error(NotWhole((0, 1)), net_glued, web, (2, 3))
        self.assert_error(NotWhole((0,)), net_glued, Web(4, ()), (2, 3))
