import itertools
import random

from tests.helpers import (
    Case, chosen_families, every_family, every_lot, gated_families, gated_sample, plus, small_families,
)
from tests.test_book import true_best, worth_of
from tests.test_critical import true_critical
from turnlots.book import bettering
from turnlots.errors import BadLot, BadStretch, BadThing, NotInside, TooMany
from turnlots.families import Family
from turnlots.stretches import (
    Stretches, ends, is_possible, is_safe, own_world, safe_lots, side_ends, world_high, worlds,
)
from turnlots.wishes import Wish

FAR = 10 ** 12


def some_rows(size, each=3, seed=11):
    """Rows of stretches, narrow ones, with low equal to high here and there, always the same."""
    chooser = random.Random(seed)
    for width in (0, 1, 2):
        for _ in range(each):
            lows = [chooser.randint(-2, 2) for _ in range(size)]
            yield tuple((low, low + chooser.randint(0, width)) for low in lows)


def true_worlds(rows):
    return list(itertools.product(*[range(low, high + 1) for low, high in rows]))


def corner_worlds(rows):
    """The worlds that have low or high at each thing."""
    return list(itertools.product(*rows))


def families():
    yield from every_family(1)
    yield from every_family(2)
    yield from every_family(3, 7)
    yield from gated_families(4)[::700]
    yield from chosen_families((4, 5), 1)


class StretchesTest(Case):
    def test_point_72_rows(self):
        for rows in ([(1, 3), (2, 2), (0, 1)], ([-FAR, FAR],), ((0, 0),) * 12):
            stretches = Stretches(rows)
            kept = tuple(tuple(row) for row in rows)
            self.assert_same(stretches.rows, kept)
            self.assert_same(len(stretches), len(rows))
            self.assert_same(list(stretches), list(kept))
            unseen = tuple(x for x, row in enumerate(rows) if row[0] != row[1])
            self.assert_same(stretches.unseen(), unseen)
            self.assert_same(stretches.settled, unseen == ())

    def test_point_72_rows_that_are_wrong(self):
        for rows, place in (
            (None, -1), ("ab", -1), (Stretches([(0, 1)]), -1), ((), -2), ([], -2), ([(0, 1), None], 1),
            ([(0,)], 0), ([(0, 1, 2)], 0), ([(1, 0)], 0), ([(0, 0), (0, True)], 1), ([(0, 1.0)], 0),
            ([[1, 1], "12"], 1),
        ):
            self.assert_error(BadStretch(place), Stretches, rows)
            if not isinstance(rows, Stretches):
                self.assert_error(BadStretch(place), world_high, rows, high=None)
                self.assert_error(BadStretch(place), own_world, rows, None)

    def test_point_1_later_changes_have_no_effect(self):
        rows = [[0, 1], [2, 2]]
        stretches = Stretches(rows)
        rows[0][1] = 7
        rows.append([5, 5])
        self.assert_same(stretches.rows, ((0, 1), (2, 2)))

    def test_point_72_worlds_that_are_high_on_a_lot(self):
        for rows in some_rows(4):
            for lot in every_lot(4):
                high = Wish(*[row[1] if x in lot else row[0] for x, row in enumerate(rows)])
                own = Wish(*[row[0] if x in lot else row[1] for x, row in enumerate(rows)])
                for stretches in (rows, [list(row) for row in rows], Stretches(rows)):
                    self.assertEqual(world_high(stretches, high=list(lot)[::-1]), high)
                    self.assertEqual(own_world(stretches, list(lot)[::-1]), own)
            self.assertEqual(world_high(rows), Wish(*[low for low, _ in rows]))

    def test_worlds_of_wrong_lots(self):
        for lot, place in ((None, -1), ((0, 2), 1), ([1, 1], 1)):
            self.assert_error(BadLot(place), lambda: world_high([(0, 1), (2, 2)], high=lot))
            self.assert_error(BadLot(place), own_world, Stretches([(0, 1), (2, 2)]), lot)


class WorldsTest(Case):
    def test_point_72_all_worlds_in_order(self):
        for size in (1, 2, 3, 4):
            for rows in some_rows(size):
                for stretches in (rows, Stretches(rows)):
                    found = list(worlds(stretches))
                    self.assertTrue(all(type(wish) is Wish for wish in found))
                    self.assert_same([wish.numbers for wish in found], true_worlds(rows))
        self.assert_same([wish.numbers for wish in worlds([(5, 5)])], [(5,)])

    def test_3000_worlds_and_more(self):
        self.assertEqual(len(list(worlds([(1, 3000)]))), 3000)
        found = list(worlds([(0, 9), (7, 7), (-9, 10), (1, 15)]))
        self.assertEqual((len(found), found[-1].numbers), (3000, (9, 7, 10, 15)))
        for rows in ([(1, 3001)], [(0, 1)] * 12, [(0, 0), (0, 10 ** 30)]):
            self.assert_error(TooMany("worlds"), list, worlds(rows))

    def test_the_argument_is_read_when_the_first_world_is_asked_for(self):
        for rows, error in (
            (None, BadStretch(-1)), ((), BadStretch(-2)), ([(0, 9000), (1, 0)], BadStretch(1)),
            ([(0, 9000)], TooMany("worlds")),
        ):
            self.assert_error(error, next, worlds(rows))
        rows = [(0, 1)]
        late = worlds(rows)
        rows[0] = (4, 5)
        self.assert_same([wish.numbers for wish in late], [(4,), (5,)])


class SafeTest(Case):
    def test_point_73_safe_and_possible_lots(self):
        for family in families():
            for rows in some_rows(family.size, 1):
                best = [set(true_best(family, wish)) for wish in true_worlds(rows)]
                safe = [lot for lot in family if all(lot in lots for lots in best)]
                self.assert_same(safe_lots(family, Stretches(rows)), safe)
                for lot in family:
                    self.assert_same(is_safe(family, rows, list(lot)[::-1]), lot in safe)
                    possible = any(lot in lots for lots in best)
                    self.assert_same(is_possible(family, list(rows), lot), possible)

    def test_point_73_safe_lots_of_many_families(self):
        seen = 0
        for family in small_families():
            for rows in itertools.product([(0, 0), (1, 1), (0, 1)], repeat=family.size):
                best = [true_best(family, wish) for wish in corner_worlds(rows)]
                safe = [lot for lot in family if all(lot in lots for lots in best)]
                self.assert_same(safe_lots(family, rows), safe)
                seen += len(safe) > 1
        self.assertGreater(seen, 100)

    def test_point_73_two_safe_lots_are_apart_in_seen_things(self):
        for family in families():
            for rows in some_rows(family.size):
                for one, other in itertools.combinations(safe_lots(family, rows), 2):
                    self.assertTrue(all(rows[x][0] == rows[x][1] for x in plus(one, other)))
                    for wish in corner_worlds(rows):
                        self.assertEqual(worth_of(wish, one), worth_of(wish, other))

    def test_point_73_safe_lots_of_a_gated_family_have_no_bettering(self):
        for family in gated_sample():
            for rows in some_rows(family.size, 1):
                for lot in family.lots[:10]:
                    found = bettering(family, own_world(rows, lot), lot)
                    self.assertEqual(is_safe(family, rows, lot), found is None)

    def test_sizes_1_and_10(self):
        self.assert_same(safe_lots(Family.everything(1), [(-1, 0)]), [()])
        self.assert_same(safe_lots(Family.everything(1), [(0, 0)]), [(), (0,)])
        ten = Family.everything(10)
        self.assert_same(len(safe_lots(ten, [(0, 0)] * 10)), 1024)
        self.assert_same(safe_lots(ten, [(0, FAR)] * 10), [tuple(range(10))])
        self.assert_same(safe_lots(ten, [(-1, FAR)] + [(0, 0)] * 9), [])
        self.assert_same(is_possible(ten, [(-1, FAR)] * 10, (3, 1)), True)


class EndsTest(Case):
    def test_point_74_ends_and_all_between(self):
        for family in families():
            for rows in some_rows(family.size, 1):
                for x in range(family.size):
                    values = {true_critical(family, wish, x) for wish in true_worlds(rows)}
                    if x not in family.loose():
                        self.assertIsNone(ends(family, rows, x))
                    else:
                        self.assert_same(ends(family, Stretches(rows), x), (min(values), max(values)))
                        self.assertEqual(sorted(values), list(range(min(values), max(values) + 1)))

    def test_point_74_wide_stretches(self):
        chooser = random.Random(2)
        for family in [*chosen_families((4, 5, 6), 1), *gated_families(4)[::900]]:
            rows = [
                (low, low + chooser.choice([0, 1, chooser.randrange(FAR)]))
                for low in [chooser.randint(-FAR, FAR) for _ in range(family.size)]
            ]
            for x in family.loose():
                values = [true_critical(family, wish, x) for wish in corner_worlds(rows)]
                self.assert_same(ends(family, rows, x), (min(values), max(values)))

    def test_point_74_size_1_and_size_10(self):
        self.assert_same(ends(Family.everything(1), [(-5, 5)], 0), (0, 0))
        self.assertIsNone(ends(Family.of(1, ()), [(-5, 5)], 0))
        rows = [(x - FAR, x + FAR) for x in range(10)]
        self.assert_same(ends(Family.sized(10, 5, 5), rows, 9), (4 - FAR, 4 + FAR))
        self.assert_same(ends(Family.everything(10), rows, 9), (0, 0))

    def test_point_74_side_ends(self):
        for family in families():
            for rows in some_rows(family.size, 1):
                for x, lot in itertools.product(range(family.size), every_lot(family.size)[::3]):
                    side = set(lot) if x in lot else set(range(family.size)) - set(lot)
                    first = [row[0] if y in side else row[1] for y, row in enumerate(rows)]
                    second = [row[1] if y in side else row[0] for y, row in enumerate(rows)]
                    expected = None
                    if x in family.loose():
                        expected = true_critical(family, first, x), true_critical(family, second, x)
                    self.assert_same(side_ends(family, list(rows), x, list(lot)[::-1]), expected)


class ErrorsTest(Case):
    def test_stretches_go_before_all_others(self):
        family = Family.of(2, (0,))
        for rows, place in (
            (None, -1), ("ab", -1), ([(0, 1)], -2), ((), -2), (Stretches([(0, 1)] * 3), -2),
            ([(0, 1)] * 3, -2), ([(0, 1), (1, 0)], 1), ([(True, 1), None], 0),
        ):
            for call, rest in (
                (is_safe, [None]), (is_possible, [None]), (safe_lots, []), (ends, [None]), (side_ends, [None] * 2),
            ):
                self.assert_error(BadStretch(place), call, family, rows, *rest)

    def test_the_other_arguments(self):
        family, rows = Family.of(2, (0,)), [(0, 1), (2, 2)]
        for call in (is_safe, is_possible):
            for lot, place in ((None, -1), ((0, 2), 1)):
                self.assert_error(BadLot(place), call, family, rows, lot)
            self.assert_error(NotInside((0, 1)), call, family, rows, [1, 0])
        for thing in (-1, 2, True, None, "0"):
            self.assert_error(BadThing(thing), ends, family, rows, thing)
            self.assert_error(BadThing(thing), side_ends, family, rows, thing, None)
        # a wrong lot comes before the None of a fixed thing
        self.assert_error(BadLot(0), side_ends, family, rows, 0, (2,))
        self.assertIsNone(side_ends(family, rows, 0, (1,)))
