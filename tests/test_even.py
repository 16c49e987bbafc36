import itertools
import random

from tests.helpers import (
    Case, chosen_families, every_family, every_lot, gated_families, gated_row, plus, small_families,
    true_depth,
)
from tests.test_bonds import true_marks
from tests.test_book import some_wishes
from tests.test_critical import true_critical
from turnlots.errors import BadFamily, BadLink, BadLot, BadText, BadThing, NoLot, NotEven, NotInside
from turnlots.even import Web, is_even, needs_even, unlike_parity, web_at
from turnlots.families import Family
from turnlots.partings import finest, hangs_together
from turnlots.sides import right_sides
from turnlots.small import forget, in_of, out_of
from turnlots.texts import family_from


def every_web(size):
    links = list(itertools.combinations(range(size), 2))
    for number in range(1 << len(links)):
        yield Web(size, [link for place, link in enumerate(links) if number >> place & 1])


def some_webs(sizes=(5, 6, 8, 10), each=12, seed=4):
    chooser = random.Random(seed)
    for size in sizes:
        links = list(itertools.combinations(range(size), 2))
        for _ in range(each):
            yield Web(size, chooser.sample(links, chooser.randint(0, min(len(links), 2 * size))))


def webs():
    for size in (1, 2, 3, 4):
        yield from every_web(size)
    yield from some_webs()


def even_gated():
    """Even gated families: all of sizes 1 to 4, and larger ones."""
    for size in (1, 2, 3, 4):
        yield from (family for family in gated_families(size) if true_is_even(family))
    for size in (5, 6):
        yield from (family for family in gated_row(size) if true_is_even(family))


def true_is_even(family):
    return len({len(lot) % 2 for lot in family}) == 1


def true_parts(web):
    parts = [{x} for x in range(web.size)]
    for x, y in web.links:
        joined = [part for part in parts if x in part or y in part]
        parts = [part for part in parts if part not in joined] + [set().union(*joined)]
    return tuple(sorted(tuple(sorted(part)) for part in parts))


def true_rings(web):
    """All rings that begin with their least thing."""
    rings = []
    for many in range(3, web.size + 1):
        for first in range(web.size):
            for rest in itertools.permutations(range(first + 1, web.size), many - 1):
                ring = (first, *rest)
                if all(tuple(sorted(link)) in web.links for link in zip(ring, ring[1:] + ring[:1])):
                    rings.append(ring)
    return rings


class ParityTest(Case):
    def test_point_91_unlike_parity(self):
        for family in [*small_families(), *every_family(4, 1009), *chosen_families((5, 6))]:
            pairs = [
                (one, other) for one, other in itertools.combinations(family.lots, 2)
                if (len(one) - len(other)) % 2
            ]
            self.assert_same(unlike_parity(family), min(pairs, default=None))
            self.assert_same(is_even(family), pairs == [])
            if pairs:
                self.assert_error(NotEven(*min(pairs)), needs_even, family)
            else:
                self.assertIsNone(needs_even(family))

    def test_point_91_by_depths(self):
        for family in [*small_families(), *every_family(4, 5003)]:
            differ = all(
                true_depth(family, lot) != true_depth(family, plus(lot, (x,)))
                for lot in every_lot(family.size) for x in range(family.size)
            )
            self.assertEqual(is_even(family), differ)
            if is_even(family):
                for lot in every_lot(family.size):
                    alike = len(lot) % 2 == len(family.lots[0]) % 2
                    self.assertEqual(true_depth(family, lot) % 2 == 0, alike)

    def test_point_91_turned_and_small(self):
        for family in [*every_family(3), *even_gated()]:
            if is_even(family) and family.size > 1:
                for lot in every_lot(family.size):
                    self.assertTrue(is_even(family ^ lot))
                for x in range(family.size):
                    self.assertEqual(is_even(forget(family, x)), x not in family.loose())
                    for call in (out_of, in_of):
                        try:
                            self.assertTrue(is_even(call(family, x)))
                        except NoLot:
                            self.assertNotIn(x, family.loose())

    def test_sizes_1_and_10(self):
        self.assertIsNone(unlike_parity(Family.of(1, (0,))))
        self.assert_same(unlike_parity(Family.everything(1)), ((), (0,)))
        self.assert_same(unlike_parity(Family.everything(10)), ((), (0,)))
        self.assert_same(is_even(Family.sized(10, 5, 5)), True)


class WebTest(Case):
    def test_point_92_webs(self):
        for web in webs():
            links = list(web.links)
            self.assert_same(links, sorted(links))
            self.assert_same((len(web), list(web)), (len(links), links))
            mixed = Web(web.size, [list(link)[::-1] for link in links[::-1]])
            self.assert_same((mixed.size, mixed.links), (web.size, web.links))
            self.assert_same((mixed == web, mixed != web), (True, False))
            for x, y in itertools.product(range(-1, web.size + 1), repeat=2):
                is_link = tuple(sorted((x, y))) in links
                self.assert_same((x, y) in web, is_link)
                self.assert_same([x, y] in web, is_link)

    def test_what_is_no_link_and_no_equal(self):
        web = Web(3, [(0, 1), (1, 2)])
        for link in (None, 0, "01", (0,), (0, 1, 2), (1, 1), (True, 0), (0, None), {0: 1, 1: 0}, ([0], 1), ((0, 1),)):
            self.assert_same(link in web, False)
        for other in (Web(4, [(0, 1), (1, 2)]), Web(3, [(0, 1)]), Web(3, ()), ((0, 1), (1, 2)), None):
            self.assert_same(web == other, False)

    def test_links_that_are_wrong(self):
        for size in (0, 11, -1, True, None, "3", 3.0):
            self.assert_error(BadLink(-1), Web, size, None)
        for links, place in (
            (None, -2), ("ab", -2), ({}, -2), ([(0, 1), None], 1), ([(0,)], 0), ([(0, 1, 2)], 0), ([()], 0),
            ([(0, 0)], 0), ([(1, 2), (0, 3)], 1), ([(0, True)], 0), ([(0, -1)], 0), ([(0, 1), (1, 2), (1, 0)], 2),
            (["01"], 0), ([{0: 0, 1: 1}], 0),
        ):
            self.assert_error(BadLink(place), Web, 3, links)
        self.assert_same(Web(1, ()).links, ())

    def test_point_1_a_web_does_not_change(self):
        links = [[0, 1]]
        web = Web(3, links)
        links[0][1] = 2
        links.append([1, 2])
        self.assert_same(web.links, ((0, 1),))

    def test_point_92_what_is_near(self):
        for web in webs():
            for x in range(web.size):
                near = tuple(sorted({*itertools.chain(*[link for link in web.links if x in link])} - {x}))
                self.assert_same(web.near_to(x), near)
        for thing in (-1, 3, True, None, "0"):
            self.assert_error(BadThing(thing), Web(3, [(0, 1)]).near_to, thing)

    def test_point_92_without_links(self):
        for web in itertools.islice(webs(), 0, None, 5):
            for lot in every_lot(web.size)[::7]:
                links = tuple(link for link in web.links if not set(link) & set(lot))
                found = web.without_links(list(lot)[::-1])
                self.assertIs(type(found), Web)
                self.assert_same((found.size, found.links), (web.size, links))
        for lot, place in ((None, -1), ((0, 3), 1), ((1, 1), 1)):
            self.assert_error(BadLot(place), Web(3, [(0, 1)]).without_links, lot)

    def test_point_92_parts(self):
        for web in webs():
            self.assert_same(web.web_parts(), true_parts(web))

    def test_point_92_sides_and_odd_rings(self):
        for web in webs():
            sides = [
                lot for lot in every_lot(web.size) if all((x in lot) != (y in lot) for x, y in web.links)
            ]
            self.assert_same(web.sides(), sides[0] if sides else None)
            self.assertIn(len(sides), (0, 1 << len(web.web_parts())))
            ring = web.odd_ring_in()
            self.assertEqual(ring is None, sides != [])
            if ring is not None:
                self.check_ring(web, ring, 1)

    def check_ring(self, web, ring, parity):
        self.assertIsInstance(ring, tuple)
        self.assertGreaterEqual(len(ring), 3)
        self.assertEqual(len(set(ring)), len(ring))
        self.assertEqual(len(ring) % 2, parity)
        for link in zip(ring, ring[1:] + ring[:1]):
            self.assertIn(link, web)

    def test_point_92_even_rings(self):
        seen = {True: 0, False: 0}
        for size in (1, 2, 3, 4, 5):
            for web in itertools.islice(every_web(size), 0, None, 1 if size < 5 else 5):
                ring = web.even_ring_in()
                self.assertEqual(ring is not None, any(len(ring) % 2 == 0 for ring in true_rings(web)))
                if ring is not None:
                    self.check_ring(web, ring, 0)
                seen[ring is None] += 1
        self.assertGreater(min(seen.values()), 50)
        for web in some_webs((6,), 8):
            self.assertEqual(web.even_ring_in() is None, not any(len(ring) % 2 == 0 for ring in true_rings(web)))

    def test_point_92_rings_far_from_the_least_thing(self):
        # a way of links that leads to a ring of four, and three rings of three in a row
        way = [(0, 1), (1, 2), (2, 3)]
        four = Web(10, way + [(3, 4), (4, 5), (5, 6), (6, 3)])
        self.check_ring(four, four.even_ring_in(), 0)
        self.assertIsNone(four.odd_ring_in())
        three = Web(10, way + [(3, 4), (3, 5), (4, 5), (5, 6), (5, 7), (6, 7), (7, 8), (7, 9), (8, 9)])
        self.assertIsNone(three.even_ring_in())
        self.check_ring(three, three.odd_ring_in(), 1)
        ten = Web(10, [(x, (x + 1) % 10) for x in range(10)])
        self.assertEqual(len(ten.even_ring_in()), 10)
        nine = Web(10, [(x, (x + 1) % 9) for x in range(9)])
        self.assertEqual((len(nine.odd_ring_in()), nine.even_ring_in()), (9, None))
        two = Web(10, [(8, 9), (7, 9), (7, 8), (3, 4), (4, 5), (5, 6), (3, 6)])
        self.check_ring(two, two.odd_ring_in(), 1)
        self.check_ring(two, two.even_ring_in(), 0)


def web_text(web):
    return " ".join([f"{web.size}:"] + [f"{x}-{y}" for x, y in web.links])


class WebTextTest(Case):
    def test_texts_there_and_back(self):
        for web in webs():
            self.assertEqual(Web.of_rows(web_text(web)), web)
        self.assertIs(type(Web.of_rows("4:")), Web)
        self.assert_same(Web.of_rows("4: 3-1 0-2 1-0").links, ((0, 1), (0, 2), (1, 3)))
        self.assert_same(Web.of_rows("10: 9-0").links, ((0, 9),))

    def test_texts_of_the_wrong_form(self):
        for text in (None, 4, b"4:", ["4:"]):
            self.assert_error(BadText(-1), Web.of_rows, text)
        for text, place in (
            ("", 0), (" 4:", 0), ("4", 1), ("x", 0), ("-1:", 0), ("04:", 1), ("00:", 1), ("123:", 2), ("4: ", 3),
            ("4:0-1", 2), ("4:  0-1", 3), ("4: 0", 4), ("4: 0-", 5), ("4: 0,1", 4), ("4: 00-1", 4),
            ("4: 0-01", 6), ("4: 0-1-2", 6), ("4: 0-1 ", 7), ("4: 0-1  2-3", 7), ("4: 100-1", 5), ("4: 1-100", 7), ("4: -", 3), ("4: 0-1\n", 6), ("4:\n", 2), ("4: a-b", 3),
            ("4: 0--1", 5), ("4:: 0-1", 2), ("4 : 0-1", 1), ("4: 0-1x", 6), ("4: 12-", 6),
        ):
            self.assert_error(BadText(place), Web.of_rows, text)

    def test_each_beginning_of_a_text_is_only_too_short(self):
        text = "10: 0-12 3-4"
        for end in range(len(text)):
            beginning = text[:end]
            if end not in (3, 7, 8, 12):
                self.assert_error(BadText(end), Web.of_rows, beginning)

    def test_right_forms_with_wrong_links(self):
        for text, place in (
            ("4: 1-1", 0), ("0:", -1), ("11: 0-1", -1), ("99:", -1), ("4: 0-1 1-0", 1), ("4: 0-1 0-4", 1),
            ("4: 10-11", 0), ("4: 0-99", 0),
        ):
            self.assert_error(BadLink(place), Web.of_rows, text)

    def test_texts_of_families_and_of_webs_are_told_apart(self):
        self.assert_error(BadText(4), family_from, "4: 0-1")
        self.assert_error(BadText(4), family_from, "4: -0")
        self.assert_error(BadText(3), Web.of_rows, "4: - 0,1")
        self.assert_error(BadText(2), family_from, "4:")
        self.assert_error(BadFamily(0), family_from, "4: 9")


class WebAtTest(Case):
    def test_point_93_the_web_at_a_lot(self):
        for family in [*small_families(), *every_family(4, 3001), *chosen_families((5,), 2)]:
            for lot in family.lots[:8]:
                links = [
                    link for link in itertools.combinations(range(family.size), 2)
                    if plus(lot, link) in family.lots
                ]
                found = web_at(family, list(lot)[::-1])
                self.assertIs(type(found), Web)
                self.assert_same((found.size, found.links), (family.size, tuple(links)))

    def test_sizes_1_and_10(self):
        self.assertEqual(web_at(Family.of(1, ()), ()), Web(1, ()))
        self.assertEqual(len(web_at(Family.everything(10), (3, 4))), 45)

    def test_errors_and_their_order(self):
        family = Family.of(3, (0,), (1,))
        for lot, place in ((None, -1), ((0, 3), 1), ((1, 1), 1)):
            self.assert_error(BadLot(place), web_at, family, lot)
        self.assert_error(NotInside((0, 1)), web_at, family, [1, 0])

    def test_point_98_one_web_tells_the_parting(self):
        for family in even_gated():
            parts = finest(family)
            for lot in family.lots[:6]:
                self.assertEqual(web_at(family, lot).web_parts(), parts)
            bonded = [pair for part in parts for pair in itertools.combinations(part, 2)]
            self.assertEqual([mark[:2] for mark in true_marks(family)], sorted(bonded))

    def test_point_98_rivals_and_mates_by_the_webs(self):
        for family in even_gated():
            marks = {}
            for lot in family:
                for x, y in web_at(family, lot):
                    marks.setdefault((x, y), set()).add((x in lot) != (y in lot))
            told = [(x, y, True in marks[(x, y)], False in marks[(x, y)]) for x, y in sorted(marks)]
            self.assertEqual(told, [mark for mark in true_marks(family) if mark[:2] in marks])
            for x, y, rivals, mates in true_marks(family):
                self.assertEqual((rivals, mates), (True in marks[(x, y)], False in marks[(x, y)]))

    def test_point_99_turned_matroids(self):
        seen = {True: 0, False: 0}
        for family in even_gated():
            turns = [
                lot for lot in every_lot(family.size) if len({len(row) for row in family ^ lot}) == 1
            ]
            self.assertEqual(turns, right_sides(family))
            self.assertIn(len(turns), (0, 1 << len(finest(family))))
            for lot in family.lots[:6]:
                web = web_at(family, lot)
                sides = [
                    side for side in every_lot(family.size)
                    if all((x in side) != (y in side) for x, y in web)
                ]
                self.assertEqual(sorted(plus(lot, side) for side in sides), turns)
                self.assertEqual(web.odd_ring_in() is None, turns != [])
            seen[turns == []] += 1
        self.assertGreater(min(seen.values()), 10)

    def test_point_103_few_lots(self):
        for family in even_gated():
            if hangs_together(family):
                self.assertGreaterEqual(len(family), family.size)
                if family.size > 2:
                    around = [
                        sorted(plus(lot, (x,)) for x in range(family.size)) for lot in every_lot(family.size)
                    ]
                    self.assertEqual(len(family) == family.size, list(family) in around)

    def test_point_104_critical_wishes(self):
        for family in even_gated():
            parts = {x: part for part in finest(family) for x in part}
            for wish in some_wishes(family.size, 2):
                for x in family.loose():
                    value = true_critical(family, wish, x)
                    others = [abs(wish[y]) for y in parts[x] if y != x]
                    self.assertIn(abs(value), others)
                    self.assertTrue(value != 0 or 0 in others)

    def test_point_104_critical_wishes_other_than_0(self):
        for family in [*gated_families(2), *gated_families(3)]:
            wishes = itertools.product((-3, -2, -1, 1, 2, 3), repeat=family.size)
            values = {true_critical(family, wish, x) for wish in wishes for x in family.loose()}
            if 0 not in values:
                self.assertTrue(is_even(family))
