import itertools
import random

from tests.helpers import Case, every_lot
from tests.test_even import even_gated, every_web, true_is_even, true_rings
from tests.test_pairing import true_pairings
from turnlots.breaks import find_break, is_gated
from turnlots.errors import BadLot, BadNumber, BadTable, NotEven, NotGated, NotInside
from turnlots.even import Web, web_at
from turnlots.families import Family
from turnlots.pairing import pairs_up
from turnlots.skews import pfaffian, skew_family, twin_at

HUGE = 10 ** 30


def skew_rows(size, entries):
    """The skew table with these entries above its diagonal, row by row."""
    rows = [[0] * size for _ in range(size)]
    for (x, y), entry in zip(itertools.combinations(range(size), 2), entries):
        rows[x][y], rows[y][x] = entry, -entry
    return rows


def some_tables(sizes=(1, 2, 3, 4, 5, 6), each=6):
    chooser = random.Random(11)
    for size in sizes:
        for most in (1, 2, 9, HUGE):
            for _ in range(each):
                yield skew_rows(size, [chooser.randint(-most, most) for _ in range(size * size)])


def true_pfaffian(rows, lot):
    """The sum over all pairings, each with the sign of its crossings: not the rule of point 102."""
    if len(lot) % 2:
        return 0
    whole = Web(len(rows), list(itertools.combinations(range(len(rows)), 2)))
    value = 0
    for links in true_pairings(whole, lot):
        crossings = sum(
            1 for (a, b), (c, d) in itertools.combinations(links, 2) if a < c < b < d
        )
        term = -1 if crossings % 2 else 1
        for x, y in links:
            term *= rows[x][y]
        value += term
    return value


def determinant(rows):
    if not rows:
        return 1
    return sum(
        (-1) ** place * entry * determinant([row[:place] + row[place + 1:] for row in rows[1:]])
        for place, entry in enumerate(rows[0]) if entry
    )


class PfaffianTest(Case):
    def test_point_102_by_the_rule(self):
        for rows in some_tables():
            for lot in every_lot(len(rows)):
                value = pfaffian(rows, list(lot)[::-1])
                self.assert_same(value, true_pfaffian(rows, lot))
                if len(lot) > 1:
                    first, *rest = lot
                    terms = [
                        (-1 if j % 2 else 1) * rows[first][y] * pfaffian(rows, [z for z in rest if z != y])
                        for j, y in enumerate(rest, 2)
                    ]
                    self.assertEqual(value, 0 if len(lot) % 2 else sum(terms))

    def test_point_102_the_square_is_the_determinant(self):
        for rows in some_tables((1, 2, 3, 4, 5), 2):
            for lot in every_lot(len(rows)):
                part = [[rows[x][y] for y in lot] for x in lot]
                self.assertEqual(pfaffian(rows, lot) ** 2, determinant(part))

    def test_tuples_and_lists(self):
        rows = skew_rows(4, [2, 1, 1, 3, 1, 1])
        self.assert_same(pfaffian(tuple(tuple(row) for row in rows), (0, 1, 2, 3)), 4)
        self.assert_same(pfaffian([tuple(row) for row in rows], [3, 1]), 1)
        self.assert_same([pfaffian(rows, ()), pfaffian(rows, (2,)), pfaffian(rows, (0, 1, 2))], [1, 0, 0])

    def test_sizes_1_and_10(self):
        self.assert_same([pfaffian([[0]], ()), pfaffian([[0]], (0,))], [1, 0])
        ten = skew_rows(10, itertools.repeat(1, 45))
        self.assert_same(pfaffian(ten, tuple(range(10))), 1)
        rows = skew_rows(10, range(1, 46))
        self.assert_same(pfaffian(rows, (0, 9)), 9)

    def test_tables_that_are_wrong(self):
        good = [[0, 1, 2], [-1, 0, 3], [-2, -3, 0]]
        for rows in (None, 3, "000", {0: 1}):
            self.assert_error(BadTable(-1), pfaffian, rows, None)
        for rows in ([], (), [[0]] * 11, [None] * 11):
            self.assert_error(BadTable(-2), pfaffian, rows, None)
        for place, row in (
            (0, None), (0, "012"), (0, [0, 1]), (0, [0, 1, 2, 3]), (0, [0, True, 2]), (0, [0, 1, None]),
            (0, [1, 1, 2]), (1, [1, 0, 3]), (1, [-1, 2, 3]), (1, [-1, 0]), (1, [-1, False, 3]), (2, [-2, 3, 0]),
            (2, [2, -3, 0]), (2, [-2, -3, 1]), (2, {0: -2, 1: -3, 2: 0}), (1, [-1.0, 0, 3]),
        ):
            rows = [row if at == place else good[at] for at in range(3)]
            self.assert_error(BadTable(place), pfaffian, rows, None)
            self.assert_error(BadTable(place), skew_family, 3, rows)
        # the first wrong row counts: 1 is right by itself, but not beside row 0
        self.assert_error(BadTable(1), pfaffian, [[0, 5, 2], [-1, 0, 3], [-2, -3, 7]], (0,))
        for lot, place in ((None, -1), ((0, 3), 1), ((1, 1), 1), ([True], 0)):
            self.assert_error(BadLot(place), pfaffian, good, lot)


class SkewFamilyTest(Case):
    def test_point_102_skew_families(self):
        for rows in some_tables((1, 2, 3, 4, 5, 6), 3):
            size = len(rows)
            family = skew_family(size, rows)
            self.assertIs(type(family), Family)
            lots = [lot for lot in every_lot(size) if true_pfaffian(rows, lot) != 0]
            self.assert_same((family.size, list(family)), (size, lots))
            self.assertTrue(family.has(()) and true_is_even(family) and is_gated(family))
            links = [(x, y) for x, y in itertools.combinations(range(size), 2) if rows[x][y] != 0]
            self.assertEqual(web_at(family, ()), Web(size, links))

    def test_sizes_1_and_10(self):
        self.assertEqual(skew_family(1, ((0,),)), Family.of(1, ()))
        even = Family(10, [lot for lot in every_lot(10) if len(lot) % 2 == 0])
        self.assertEqual(skew_family(10, skew_rows(10, [1] * 45)), even)

    def test_errors_and_their_order(self):
        good = [[0, 1], [-1, 0]]
        for size in (0, 11, True, None, "2"):
            self.assert_error(BadNumber("size"), skew_family, size, None)
        self.assert_error(BadTable(-1), skew_family, 2, None)
        for size, rows in ((1, good), (3, good), (10, []), (2, [None])):
            self.assert_error(BadTable(-2), skew_family, size, rows)
        self.assert_error(BadTable(1), skew_family, 2, [[0, 1], [1, 0]])

    def test_point_1_a_table_is_not_changed(self):
        rows = skew_rows(4, [2, 1, 1, 3, 1, 1])
        kept = repr(rows)
        skew_family(4, rows)
        pfaffian(rows, (0, 1))
        self.assertEqual(repr(rows), kept)


class TwinTest(Case):
    def check_twin(self, family, lot):
        web = web_at(family, lot)
        twin = twin_at(family, list(lot)[::-1])
        if not any(len(ring) % 2 == 0 for ring in true_rings(web)):
            self.assertIsNone(twin)
            return False
        self.assertIs(type(twin), Family)
        self.assertNotEqual(twin, family)
        self.assertTrue(twin.has(lot) and true_is_even(twin) and is_gated(twin))
        self.assertEqual(web_at(twin, lot), web)
        return True

    def test_point_101_twins(self):
        seen = [self.check_twin(family, lot) for family in even_gated() for lot in family.lots[:4]]
        self.assertGreater(min(seen.count(True), seen.count(False)), 50)

    def test_point_101_twins_of_fullest_families(self):
        for size, step in ((4, 1), (5, 13)):
            for web in itertools.islice(every_web(size), 0, None, step):
                full = Family(size, [lot for lot in every_lot(size) if pairs_up(web, lot)])
                self.check_twin(full, ())
                turn = (0, size - 1)
                self.check_twin(full ^ turn, turn)

    def test_point_101_twins_of_rings_of_all_even_lengths(self):
        for length in (4, 6, 8, 10):
            ring = [(x, (x + 1) % length) for x in range(length)]
            webs = [Web(10, ring), Web(10, [*ring, *[(0, y) for y in range(2, length - 1)]])]
            webs.append(Web(10, list(itertools.combinations(range(length), 2))))
            for web in webs:
                full = Family(10, [lot for lot in every_lot(10) if pairs_up(web, lot)])
                twin = twin_at(full, ())
                self.assertTrue(is_gated(twin) and true_is_even(twin) and twin.has(()))
                self.assertEqual(web_at(twin, ()), web)
                self.assertTrue(set(twin.lots) < set(full.lots))

    def test_errors_and_their_order(self):
        broken = Family.of(4, (), (0, 1, 2), (3,))
        uneven = Family.of(3, (), (0,), (0, 1))
        for lot, place in ((None, -1), ((0, 4), 1), ((1, 1), 1)):
            self.assert_error(BadLot(place), twin_at, broken, lot)
        self.assert_error(NotInside((0, 1)), twin_at, broken, [1, 0])
        self.assert_error(NotGated(*find_break(broken)), twin_at, broken, (3,))
        self.assert_error(NotEven((), (0,)), twin_at, uneven, (0, 1))
        self.assertIsNone(twin_at(Family.of(1, (0,)), (0,)))
