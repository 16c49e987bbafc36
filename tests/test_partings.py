import itertools

from tests.helpers import (
    Case, chosen_families, every_family, every_lot, gated_families, gated_row, gated_sample,
    plus, small_families, true_depth, true_nearest,
)
from tests.test_bonds import true_marks
from tests.test_book import some_wishes
from tests.test_met import true_pairs
from tests.test_small import taken_off, true_small
from turnlots.bases import At, put_together
from turnlots.breaks import find_break, is_gated
from turnlots.critical import critical
from turnlots.errors import BadLot, NotGated, NotParted, NotWhole
from turnlots.families import Family
from turnlots.met import reach
from turnlots.partings import (
    chains, finest, hangs_together, needs_whole, parted_by, split_by, wedge,
)
from turnlots.small import small_table


def proper_lots(size):
    return [lot for lot in every_lot(size) if 0 < len(lot) < size]


def true_parts_by(family, part):
    """True if the lot parts the family: point 79, word by word."""
    lots = set(family.lots)
    return all(
        tuple(sorted((set(one) & set(part)) | (set(other) - set(part)))) in lots
        for one in family for other in family
    )


def true_finest(family):
    everything = tuple(range(family.size))
    partings = [set(lot) for lot in proper_lots(family.size) if true_parts_by(family, lot)] + [set(everything)]
    return tuple(sorted(tuple(sorted(lot)) for lot in partings if not any(less < lot for less in partings)))


def true_chains(family):
    chains_so_far = [{x} for x in range(family.size)]
    for x, y, _, _ in true_marks(family):
        joined = [chain for chain in chains_so_far if x in chain or y in chain]
        chains_so_far = [chain for chain in chains_so_far if chain not in joined] + [set().union(*joined)]
    return tuple(sorted(tuple(sorted(chain)) for chain in chains_so_far))


def true_wedge(family, part):
    rest = set(range(family.size)) - set(part)
    for lot in every_lot(family.size):
        near = true_nearest(family, lot) if true_depth(family, lot) else []
        for one, other in itertools.product(near, near):
            if set(plus(lot, one)) <= set(part) and set(plus(lot, other)) <= rest:
                return lot, one, other
    return None


def families():
    yield from small_families()
    yield from gated_families(4)[::50]
    yield from every_family(4, 1277)
    yield from chosen_families((5,), 2)


def side_by_side():
    """Families with more than one part, also with their things mixed."""
    for one, other in itertools.product(every_family(2), every_family(3, 23)):
        yield one * other
        places = (4, 1, 3, 0, 2)
        yield Family(5, [tuple(places[x] for x in lot) for lot in one * other])


class PartingsTest(Case):
    def test_point_79_lots_that_part(self):
        for family in [*families(), *side_by_side()]:
            for lot in proper_lots(family.size):
                self.assert_same(parted_by(family, list(lot)[::-1]), true_parts_by(family, lot))

    def test_point_79_parts(self):
        seen = {True: 0, False: 0}
        for family in [*families(), *side_by_side()]:
            parts = true_finest(family)
            self.assert_same(finest(family), parts)
            self.assert_same(hangs_together(family), len(parts) == 1)
            if len(parts) == 1:
                self.assertIsNone(needs_whole(family))
            else:
                self.assert_error(NotWhole(parts[0]), needs_whole, family)
            seen[len(parts) == 1] += 1
        self.assertGreater(min(seen.values()), 50)

    def test_point_79_lots_that_part_go_together(self):
        for family in [*every_family(3, 3), *side_by_side()]:
            partings = [lot for lot in proper_lots(family.size) if parted_by(family, lot)]
            everything = set(range(family.size))
            for one, other in itertools.product(partings, partings):
                one, other = set(one), set(other)
                for lot in (everything - one, one & other, one | other, one ^ other):
                    if 0 < len(lot) < family.size:
                        self.assertTrue(parted_by(family, sorted(lot)))
            parts = finest(family)
            self.assertEqual(sorted(x for part in parts for x in part), sorted(everything))
            unions = {
                tuple(sorted(x for part in some for x in part))
                for many in range(1, len(parts)) for some in itertools.combinations(parts, many)
            }
            self.assertEqual(unions, set(partings))

    def test_point_79_fixed_things_and_side_by_side(self):
        for family in [*families(), *side_by_side()]:
            for x in family.fixed_in() + family.fixed_out():
                self.assertIn((x,), finest(family))
        for one, other in itertools.product(every_family(2), every_family(3, 23)):
            moved = tuple(tuple(x + 2 for x in part) for part in finest(other))
            self.assertEqual(finest(one * other), finest(one) + moved)

    def test_sizes_1_and_10(self):
        self.assert_same(finest(Family.everything(1)), ((0,),))
        self.assert_same(hangs_together(Family.of(1, ())), True)
        self.assertIsNone(needs_whole(Family.of(1, (0,))))
        self.assert_same(finest(Family.everything(10)), tuple((x,) for x in range(10)))
        self.assert_same(finest(Family.sized(10, 5, 5)), (tuple(range(10)),))
        self.assert_same(finest(Family.sized(4, 2, 2) * Family.sized(6, 1, 5)), ((0, 1, 2, 3), (4, 5, 6, 7, 8, 9)))

    def test_point_79_by_reach(self):
        for family in [*every_family(2), *every_family(3, 5), *gated_families(4)[::900]]:
            for part in proper_lots(family.size):
                told = all(self.reach_adds(family, pair, part) for pair in true_pairs(family.size))
                self.assertEqual(parted_by(family, part), told)

    def reach_adds(self, family, pair, part):
        inside = [tuple(x for x in lot if x in part) for lot in pair]
        outside = [tuple(x for x in lot if x not in part) for lot in pair]
        return reach(family, pair) == reach(family, inside) + reach(family, outside)

    def test_point_79_small_tables(self):
        for family in itertools.islice(side_by_side(), 0, None, 9):
            for part in proper_lots(5):
                if parted_by(family, part):
                    self.check_tables(family, part)

    def check_tables(self, family, part):
        for inside, out in true_pairs(5)[::5]:
            left = set(range(5)) - {*inside, *out}
            if left & set(part) and left - set(part) and true_small(family, inside, out):
                table = small_table(family, inside=inside, out=out)
                there = taken_off([x for x in part if x in left], inside + out)
                self.assertTrue(parted_by(table, there))

    def test_point_79_critical_wishes_stay_in_their_part(self):
        for family in itertools.islice(side_by_side(), 0, None, 9):
            for wish, other in itertools.product(some_wishes(5, 1), repeat=2):
                for part in finest(family):
                    mixed = [wish[x] if x in part else other[x] for x in range(5)]
                    for x in set(part) & set(family.loose()):
                        self.assertEqual(critical(family, wish, x), critical(family, mixed, x))

    def test_point_79_critical_wishes_that_are_always_0(self):
        for family in [*every_family(2), *every_family(3)]:
            for x in family.loose():
                wishes = itertools.product((-2, -1, 0, 1, 2), repeat=family.size)
                always = all(critical(family, wish, x) == 0 for wish in wishes)
                self.assertEqual(parted_by(family, (x,)), always)


class ChainsTest(Case):
    def test_point_80_chains(self):
        for family in [*families(), *side_by_side()]:
            found = chains(family)
            self.assert_same(found, true_chains(family))
            parts = finest(family)
            self.assertTrue(all(any(set(chain) <= set(part) for part in parts) for chain in found))
            if is_gated(family):
                self.assertEqual(found, parts)

    def test_point_80_chains_that_are_no_parts(self):
        family = Family.of(3, (), (0, 1, 2))
        self.assert_same(chains(family), ((0,), (1,), (2,)))
        self.assert_same(finest(family), ((0, 1, 2),))

    def test_point_82_parts_by_lumps(self):
        for family in [*gated_families(3), *gated_families(4)[::150]]:
            lumps = [lump for lot in every_lot(family.size) for lump in At(family, lot).lumps()]
            self.assertEqual(put_together(family.size, lumps), finest(family))


class SplitTest(Case):
    def test_point_79_split_and_put_together(self):
        for family in [*families(), *side_by_side()]:
            for part in proper_lots(family.size):
                if parted_by(family, part):
                    self.check_split(family, part)
                else:
                    self.assert_error(NotParted(part), split_by, family, list(part)[::-1])

    def check_split(self, family, part):
        found = split_by(family, list(part)[::-1])
        self.assertIsInstance(found, tuple)
        rest = [x for x in range(family.size) if x not in part]
        lots = [[things[x] for x in lot] for things, table in zip((part, rest), found) for lot in table]
        ones, others = lots[:len(found[0])], lots[len(found[0]):]
        self.assertEqual(Family(family.size, [one + other for one in ones for other in others]), family)
        self.assertEqual((found[0].size, found[1].size), (len(part), len(rest)))


class WedgeTest(Case):
    def test_point_81_first_wedge(self):
        for family in gated_sample():
            for part in proper_lots(family.size)[::3]:
                self.assert_same(wedge(family, list(part)[::-1]), true_wedge(family, part))

    def test_point_81_cuts_of_a_gated_family(self):
        for family in [*gated_families(3), *gated_families(4)[::80], *gated_row(5)]:
            marks = true_marks(family)
            for part in proper_lots(family.size):
                parts = parted_by(family, part)
                self.assertEqual(wedge(family, part) is None, parts)
                self.assertEqual(not any((x in part) != (y in part) for x, y, _, _ in marks), parts)

    def test_point_81_ranks(self):
        for family in gated_families(3)[::2]:
            for part in proper_lots(3):
                rest = [x for x in range(3) if x not in part]
                ranks = [
                    At(family, lot).rank_of(part) + At(family, lot).rank_of(rest) == true_depth(family, lot)
                    for lot in every_lot(3)
                ]
                self.assertEqual(all(ranks), parted_by(family, part))

    def test_sizes_2_and_10(self):
        self.assert_same(wedge(Family.of(2, (0,), (1,)), (1,)), ((), (1,), (0,)))
        self.assertIsNone(wedge(Family.everything(10), (3, 4)))
        found = wedge(Family.sized(10, 5, 5), (9,))
        self.assert_same(found, ((0, 1, 2, 3), (0, 1, 2, 3, 9), (0, 1, 2, 3, 4)))


class PointEightyThreeTest(Case):
    def test_point_83_both_lots(self):
        for family in gated_sample():
            lots = set(family.lots)
            for one, other in itertools.product(family.lots[:20], family.lots[-20:]):
                apart = plus(one, other)
                for x in apart:
                    if plus(one, (x,)) not in lots and plus(other, (x,)) not in lots:
                        self.assertTrue([
                            y for y in apart
                            if y != x and plus(one, (x, y)) in lots and plus(other, (x, y)) in lots
                        ])


class ErrorsTest(Case):
    def test_lots(self):
        broken = Family.of(3, (), (0, 1, 2))
        for lot, place in ((None, -1), ((0, 3), 1), ((1, 1), 1), ((), -1), ([], -1), ((2, 1, 0), -1)):
            for call in (parted_by, split_by, wedge):
                self.assert_error(BadLot(place), call, broken, lot)
        for lot in ((), (0,)):
            self.assert_error(BadLot(-1), parted_by, Family.of(1, ()), lot)

    def test_split_and_wedge(self):
        broken = Family.of(3, (), (0, 1, 2))
        self.assert_error(NotParted((0, 2)), split_by, broken, [2, 0])
        self.assert_error(NotGated(*find_break(broken)), wedge, broken, (1,))
