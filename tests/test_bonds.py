import itertools

from tests.helpers import (
    Case, chosen_families, every_family, every_lot, gated_families, gated_row, gated_sample,
    just_outside, plus, small_families, true_depth,
)
from tests.test_book import some_wishes
from tests.test_met import true_pairs
from turnlots.away import within
from turnlots.bases import At
from turnlots.bonds import (
    are_bonded, are_mates, are_rivals, bond_lots, bonds, mates_of, rivals_of, showing_wish,
)
from turnlots.critical import critical, reasons
from turnlots.depths import lowers
from turnlots.errors import BadLot, BadSort, BadThing, NoLot, NotBonded
from turnlots.families import Family
from turnlots.kept import least_refused
from turnlots.met import met
from turnlots.peaks import peaks
from turnlots.small import forget, in_of, out_of, renumbered
from turnlots.wishes import Wish


def true_bonds(family, x, y):
    """The lots at which x and y are bonded, each with its sort: point 76, word by word."""
    lots = set(family.lots)
    return [
        (lot, "rivals" if (x in lot) == (y in lot) else "mates")
        for lot in every_lot(family.size)
        if lot not in lots and plus(lot, (x,)) in lots and plus(lot, (y,)) in lots
    ]


def true_marks(family):
    """The tuples of all bonded things, as bonds gives them."""
    found = []
    for x, y in itertools.combinations(range(family.size), 2):
        sorts = {sort for _, sort in true_bonds(family, x, y)}
        if sorts:
            found.append((x, y, "rivals" in sorts, "mates" in sorts))
    return found


def families():
    yield from small_families()
    yield from gated_families(4)[::100]
    yield from every_family(4, 1609)
    yield from chosen_families((5,), 2)


class BondsTest(Case):
    def test_point_76_lots_of_bonds(self):
        for family in families():
            for x, y in itertools.permutations(range(family.size), 2):
                found = true_bonds(family, x, y)
                self.assert_same(bond_lots(family, x, y), [lot for lot, _ in found])
                self.assert_same(bond_lots(family, x, y, sort="both"), [lot for lot, _ in found])
                for word, call in (("rivals", are_rivals), ("mates", are_mates)):
                    lots = [lot for lot, sort in found if sort == word]
                    self.assert_same(bond_lots(family, x, y, sort=word), lots)
                    self.assert_same(call(family, x, y), lots != [])
                self.assert_same(are_bonded(family, x, y), found != [])

    def test_point_76_all_bonds(self):
        for family in families():
            marks = true_marks(family)
            self.assert_same(bonds(family), marks)
            for z in range(family.size):
                rivals = tuple(sorted(x + y - z for x, y, one, _ in marks if one and z in (x, y)))
                mates = tuple(sorted(x + y - z for x, y, _, one in marks if one and z in (x, y)))
                self.assert_same(rivals_of(family, z), rivals)
                self.assert_same(mates_of(family, z), mates)

    def test_sizes_1_and_10(self):
        self.assert_same(bonds(Family.everything(1)), [])
        self.assert_same(rivals_of(Family.of(1, ()), 0), ())
        self.assert_same(bonds(Family.everything(10)), [])
        self.assert_same(bonds(Family.of(10, tuple(range(10)), ())), [])
        rivals = [(x, y, True, False) for x, y in itertools.combinations(range(10), 2)]
        self.assert_same(bonds(Family.sized(10, 5, 5)), rivals)
        even = Family(10, [lot for lot in every_lot(10) if len(lot) % 2 == 0])
        self.assert_same(bonds(even), [(x, y, True, True) for x, y, _, _ in rivals])

    def test_point_1_answers_are_new(self):
        family = Family.sized(3, 1, 1)
        self.assert_new(bonds, family)
        self.assert_new(bond_lots, family, 0, 1)

    def test_point_77_bonded_things_are_loose_and_lower(self):
        for family in families():
            for x, y, _, _ in bonds(family):
                self.assertTrue({x, y} <= set(family.loose()))
            for lot in just_outside(family):
                for x, y in itertools.combinations(lowers(family, lot), 2):
                    self.assertIn(lot, bond_lots(family, x, y))

    def test_point_77_turned(self):
        for family in [*every_family(3, 3), *chosen_families((4, 5), 1)]:
            for turn in every_lot(family.size)[::3]:
                for x, y in itertools.combinations(range(family.size), 2):
                    for word, other in (("rivals", "mates"), ("mates", "rivals")):
                        sort = word if (x in turn) == (y in turn) else other
                        lots = sorted(plus(lot, turn) for lot in bond_lots(family, x, y, sort=word))
                        self.assertEqual(bond_lots(family ^ turn, x, y, sort=sort), lots)

    def test_point_77_side_by_side(self):
        for one, other in itertools.product(every_family(2), every_family(3, 11)):
            moved = [(x + 2, y + 2, rivals, mates) for x, y, rivals, mates in bonds(other)]
            self.assertEqual(bonds(one * other), bonds(one) + moved)

    def test_point_77_small_tables(self):
        for family in [*every_family(3), *gated_families(4)[::200], *every_family(4, 5003)]:
            for z in range(family.size):
                tables = [self.table(call, family, z) for call in (out_of, in_of)]
                for x, y in itertools.combinations(set(range(family.size)) - {z}, 2):
                    there = renumbered(x, (z,)), renumbered(y, (z,))
                    for call in (are_rivals, are_mates):
                        seen = any(call(table, *there) for table in tables if table is not None)
                        self.assertEqual(call(family, x, y), seen)

    def table(self, call, family, z):
        try:
            return call(family, z)
        except NoLot:
            return None

    def test_point_77_forgotten(self):
        for family in [*gated_families(3), *gated_families(4)[::50], *gated_row(5)]:
            for z in range(family.size):
                for x, y, rivals, mates in bonds(forget(family, z)):
                    x, y = x + (x >= z), y + (y >= z)
                    self.assertTrue(are_rivals(family, x, y) or not rivals)
                    self.assertTrue(are_mates(family, x, y) or not mates)


class ShowingTest(Case):
    def test_point_78_showing_wishes(self):
        for family in families():
            for x, y in itertools.permutations(range(family.size), 2):
                for lot, sort in true_bonds(family, x, y)[:3]:
                    found = showing_wish(family, list(lot)[::-1], x, y)
                    self.assertIs(type(found), Wish)
                    self.check_showing(family, lot, x, y, sort, found)

    def check_showing(self, family, lot, x, y, sort, found):
        numbers = [8 if z in lot else -8 for z in range(family.size)]
        numbers[x] = 0
        for k in range(1, 9):
            numbers[y] = k if y in lot else -k
            expected = numbers[y] if sort == "rivals" else -numbers[y]
            self.assertEqual(critical(family, numbers, x), expected)
            if k < 8:
                self.assertEqual(reasons(family, numbers, x), [(y, 1 if sort == "rivals" else -1)])
            if k == 1:
                self.assert_same(found.numbers, tuple(numbers))

    def test_point_78_reasons_in_gated_families(self):
        for family in gated_sample():
            for wish in some_wishes(family.size, 2):
                for x in family.loose():
                    found = reasons(family, wish, x)
                    bonded = [(y, 1) for y in rivals_of(family, x)] + [(y, -1) for y in mates_of(family, x)]
                    self.assertTrue([reason for reason in found if reason in [(-1, 0)] + bonded])


class WhereBondsAreSeenTest(Case):
    def test_point_82_lumps(self):
        for family in [*gated_families(3), *gated_families(4)[::120]]:
            seen, at_peaks = set(), set()
            tops = peaks(family)
            for lot in every_lot(family.size):
                for lump in At(family, lot).lumps():
                    for x, y in itertools.combinations(lump, 2):
                        mark = (x, y, "rivals" if (x in lot) == (y in lot) else "mates")
                        seen.add(mark)
                        if lot in tops:
                            at_peaks.add(mark)
            self.assertEqual(seen, self.marks(family))
            self.assertEqual(at_peaks, self.marks(family))

    def marks(self, family):
        rows = bonds(family)
        return ({(x, y, "rivals") for x, y, rivals, _ in rows if rivals}
                | {(x, y, "mates") for x, y, _, mates in rows if mates})

    def test_point_82_what_is_met(self):
        for family in [*gated_families(2), *gated_families(3)[::3], *gated_families(4)[::900]]:
            seen = set()
            for wanted, unwanted in true_pairs(family.size):
                rest = sorted(set(range(family.size)) - {*wanted, *unwanted})
                for x, y in itertools.combinations(rest, 2):
                    for s, t in itertools.product((True, False), repeat=2):
                        if self.bends(family, (wanted, unwanted), (x, s), (y, t)):
                            seen.add((x, y, "rivals" if s == t else "mates"))
            self.assertEqual(seen, self.marks(family))

    def bends(self, family, pair, one, other):
        def more(pair, thing, is_wanted):
            return (pair[0] + (thing,), pair[1]) if is_wanted else (pair[0], pair[1] + (thing,))
        first, second = more(pair, *one), more(pair, *other)
        both = more(first, *other)
        return met(family, first) + met(family, second) > met(family, pair) + met(family, both)

    def test_point_82_least_refused_pairs(self):
        for family in [*gated_families(3), *gated_families(4)[::60]]:
            seen = set()
            for pair in least_refused(family):
                for x, y in itertools.combinations(sorted(pair.wanted + pair.unwanted), 2):
                    word = "rivals" if (x in pair.wanted) == (y in pair.wanted) else "mates"
                    seen.add((x, y, word))
            self.assertEqual(seen, self.marks(family))

    def test_point_82_within_a_depth(self):
        for family in [*gated_families(3), *gated_families(4)[::120]]:
            for k in range(3):
                seen = set()
                for lot in every_lot(family.size):
                    for x, y in itertools.combinations(lowers(family, lot), 2):
                        if true_depth(family, lot) == k + 1:
                            seen.add((x, y, "rivals" if (x in lot) == (y in lot) else "mates"))
                self.assertEqual(self.marks(within(family, k)), seen)


class ErrorsTest(Case):
    def test_things(self):
        family = Family.of(3, (0,), (1,))
        for call in (bond_lots, are_rivals, are_mates, are_bonded):
            for thing in (-1, 3, True, None, "0"):
                self.assert_error(BadThing(thing), call, family, thing, 9)
                self.assert_error(BadThing(thing), call, family, 0, thing)
            self.assert_error(BadThing(2), call, family, 2, 2)
        for call in (rivals_of, mates_of):
            for thing in (-1, 3, True, None, "0"):
                self.assert_error(BadThing(thing), call, family, thing)

    def test_sorts(self):
        family = Family.of(3, (0,), (1,))
        for sort in ("rival", "", None, "Both", 1, ["both"]):
            self.assert_error(BadSort(sort), lambda: bond_lots(family, 0, 1, sort=sort))
            self.assert_error(BadThing(0), lambda: bond_lots(family, 0, 0, sort=sort))
        with self.assertRaises(TypeError):
            bond_lots(family, 0, 1, "both")

    def test_showing_wish(self):
        family = Family.of(3, (0,), (1,))
        for lot, x, y, error in (
            (None, None, None, BadLot(-1)), ((0, 3), 5, 5, BadLot(1)), ((), 3, None, BadThing(3)),
            ((), 0, True, BadThing(True)), ((), 1, 1, BadThing(1)), ((0,), 0, 1, NotBonded(0, 1)),
            ((), 1, 2, NotBonded(1, 2)), ([2, 1, 0], 1, 0, NotBonded(1, 0)),
        ):
            self.assert_error(error, showing_wish, family, lot, x, y)
