import itertools

from tests.helpers import (
    Case, chosen_families, every_family, every_lot, gated_families, gated_row, plus, small_families, true_depth,
)
from tests.test_bothways import both_ways_sample
from turnlots.away import within
from turnlots.bothways import works_both_ways
from turnlots.breaks import is_gated
from turnlots.depths import deepest
from turnlots.errors import BadNumber, BadPair, BadThing, NoLot, OtherSize, TooMany
from turnlots.families import Family
from turnlots.merges import glue_over, join, merge
from turnlots.small import forget, in_of, out_of


def true_merge(family, u, v):
    low, high = sorted((u, v))
    rows = set()
    for lot in family:
        row = {x - (x > high) for x in lot if x not in (low, high)}
        if (low in lot) != (high in lot):
            row.add(low)
        rows.add(tuple(sorted(row)))
    return sorted(rows)


def true_glue_over(one, other, pairs):
    first = [x for x in range(one.size) if x not in [pair[0] for pair in pairs]]
    second = [y for y in range(other.size) if y not in [pair[1] for pair in pairs]]
    rows = set()
    for lot, row in itertools.product(one, other):
        if all((x in lot) == (y in row) for x, y in pairs):
            left = [place for place, x in enumerate(first) if x in lot]
            right = [len(first) + place for place, y in enumerate(second) if y in row]
            rows.add((*left, *right))
    return sorted(rows)


def some_pairs(one, other):
    """Some rows of pairs of things, up to all that there can be."""
    most = min(one.size, other.size)
    yield ()
    yield [(one.size - 1, 0)]
    yield [[0, other.size - 1]]
    if most > 1:
        yield ((1, 0), [0, other.size - 1])
        yield [(x, most - 1 - x) for x in range(most)]


def families():
    yield from small_families()
    yield from every_family(4, 1511)
    yield from gated_families(4)[::60]
    yield from chosen_families((5,), 2)


class MergeTest(Case):
    def test_point_112_merged(self):
        for family in families():
            for u, v in itertools.permutations(range(family.size), 2):
                found = merge(family, u, v)
                self.assertIs(type(found), Family)
                self.assert_same((found.size, list(found)), (family.size - 1, true_merge(family, u, v)))
                self.assertEqual(found, merge(family, v, u))

    def test_point_112_merged_families_are_gated(self):
        for family in [*gated_families(2), *gated_families(3), *gated_families(4)[::3], *gated_row(5)]:
            for u, v in itertools.combinations(range(family.size), 2):
                self.assertTrue(is_gated(merge(family, u, v)))

    def test_sizes_2_and_10(self):
        self.assertEqual(merge(Family.of(2, (0,), (0, 1)), 1, 0), Family.everything(1))
        self.assertEqual(merge(Family.everything(10), 3, 9), Family.everything(9))
        self.assertEqual(merge(Family.of(10, (2, 5, 9)), 9, 4), Family.of(9, (2, 4, 5)))
        self.assertEqual(merge(Family.of(10, (2, 5, 9)), 2, 5), Family.of(9, (8,)))

    def test_errors_and_their_order(self):
        family = Family.of(3, (0,), (1, 2))
        for u, v, thing in (
            (3, None, 3), (-1, -1, -1), (True, 0, True), (None, 0, None), (0, 3, 3), (0, False, False),
            (1, "2", "2"), (1, 1, 1), (0, 0, 0),
        ):
            self.assert_error(BadThing(thing), merge, family, u, v)
        self.assert_error(BadThing(0), merge, Family.everything(1), 0, 0)
        self.assert_error(BadThing(1), merge, Family.everything(1), 0, 1)


class JoinTest(Case):
    def test_point_117_joined(self):
        for one, other in itertools.product(every_family(2), every_family(2)):
            found = join(one, other)
            self.assertIs(type(found), Family)
            self.assertEqual(list(found), sorted({plus(lot, row) for lot in one for row in other}))

    def test_point_117_depths_of_a_join(self):
        pairs = [*itertools.product([*every_family(3, 11)], [*every_family(3, 17)])]
        pairs += [*itertools.product(gated_families(4)[::400], gated_families(4)[::700]), *self.larger()]
        for one, other in pairs:
            joined = join(one, other)
            for lot in every_lot(one.size):
                self.assertEqual(
                    true_depth(joined, lot), min(true_depth(one, plus(lot, row)) for row in other)
                )
            self.assertLessEqual(deepest(joined), min(deepest(one), deepest(other)))

    def larger(self):
        row = [*gated_row(5)]
        return [(row[place], row[place - 1]) for place in range(1, 5)]

    def test_point_112_joins_of_gated_families_are_gated(self):
        threes = gated_families(3)
        for one, other in itertools.product(threes[::3], threes[::2]):
            self.assertTrue(is_gated(join(one, other)))
        for one, other in [*itertools.product(gated_families(4)[::300], gated_families(4)[::200]), *self.larger()]:
            self.assertTrue(is_gated(join(one, other)))

    def test_other_sizes(self):
        self.assert_error(OtherSize(2), join, Family.everything(3), Family.everything(2))
        self.assert_error(OtherSize(10), join, Family.everything(9), Family.everything(10))
        self.assertEqual(join(Family.of(10, (3,)), Family.of(10, (3, 4))), Family.of(10, (4,)))


class GlueOverTest(Case):
    def check_glued(self, one, other, pairs):
        size = one.size + other.size - 2 * len(pairs)
        lots = true_glue_over(one, other, pairs)
        if size == 0:
            return self.assert_error(BadNumber("size"), glue_over, one, other, pairs)
        if size > 10:
            return self.assert_error(TooMany("things"), glue_over, one, other, pairs)
        if not lots:
            return self.assert_error(NoLot(), glue_over, one, other, pairs)
        found = glue_over(one, other, pairs)
        self.assertIs(type(found), Family)
        self.assert_same((found.size, list(found)), (size, lots))
        return found

    def test_point_112_glued(self):
        rows = [*every_family(1), *every_family(2), *every_family(3, 13), *chosen_families((4, 6), 2)]
        for one, other in itertools.product(rows, rows):
            for pairs in some_pairs(one, other):
                self.check_glued(one, other, pairs)

    def test_point_112_glued_gated_families_are_gated(self):
        rows = [*gated_families(1), *gated_families(2), *gated_families(3)[::6], *gated_families(4)[::500]]
        for one, other in itertools.product(rows, rows):
            for pairs in some_pairs(one, other):
                found = self.check_glued(one, other, pairs)
                if found is not None:
                    self.assertTrue(is_gated(found))

    def test_no_pairs_are_side_by_side(self):
        for one, other in itertools.product(every_family(2), every_family(2)):
            self.assertEqual(glue_over(one, other, []), one * other)

    def test_edges_of_the_size(self):
        one, ten = Family.everything(1), Family.everything(10)
        self.assert_error(BadNumber("size"), glue_over, one, one, [(0, 0)])
        # there is no lot, but this is due first
        self.assert_error(BadNumber("size"), glue_over, Family.of(1, ()), Family.of(1, (0,)), [(0, 0)])
        self.assert_error(BadNumber("size"), glue_over, ten, ten, [(x, x) for x in range(10)])
        self.assert_error(TooMany("things"), glue_over, ten, one, ())
        self.assert_error(TooMany("things"), glue_over, Family.of(10, ()), Family.of(3, (0,)), [(0, 0)])
        self.assert_error(NoLot(), glue_over, Family.of(10, ()), Family.of(2, (0,)), [(9, 0)])
        self.assertEqual(glue_over(ten, one, [(4, 0)]), Family.everything(9))
        self.assertEqual(glue_over(ten, ten, [(x, x) for x in range(5)]), ten)
        self.assertEqual(glue_over(Family.everything(5), Family.everything(5), ()), ten)

    def test_pairs_that_are_wrong(self):
        one, other = Family.of(3, (0,)), Family.of(2, ())
        for pairs in (None, 3, "00", {}, {0: 1}):
            self.assert_error(BadPair(-1), glue_over, one, other, pairs)
        for pairs, place in (
            ([None], 0), (["00"], 0), ([(0,)], 0), ([(0, 1, 2)], 0), ([(3, 0)], 0), ([(0, 2)], 0), ([(-1, 0)], 0),
            ([(True, 0)], 0), ([(0, False)], 0), ([(0, None)], 0), ([(0, 0), (0, 1)], 1), ([(0, 0), (1, 0)], 1),
            ([(0, 0), (1, 1), (2, 1)], 2), ([(0, 0), (0, 1), None], 1), ([()], 0), ([(0, 0), [0, 0]], 1),
        ):
            self.assert_error(BadPair(place), glue_over, one, other, pairs)
        # they come before the size
        self.assert_error(BadPair(0), glue_over, Family.everything(10), Family.everything(10), [(10, 0)])


class KeepsBothWaysTest(Case):
    def test_point_113_what_keeps_both_ways(self):
        for family in both_ways_sample():
            answers = [family ^ lot for lot in every_lot(family.size)[:: family.size]]
            answers += [within(family, number) for number in (1, 2)]
            if family.size > 1:
                for x in range(family.size):
                    answers.append(forget(family, x))
                    answers += [merge(family, x, y) for y in range(x)]
                    if x not in family.fixed_in():
                        answers.append(out_of(family, x))
                    if x not in family.fixed_out():
                        answers.append(in_of(family, x))
            for answer in answers:
                self.assertTrue(works_both_ways(answer))

    def test_point_113_joined_and_glued(self):
        ones = [family for family in both_ways_sample() if family.size < 5]
        for one, other in itertools.product(ones[::5], ones[::4]):
            if one.size == other.size:
                self.assertTrue(works_both_ways(join(one, other)))
            for pairs in some_pairs(one, other):
                if true_glue_over(one, other, pairs) and 2 * len(pairs) < one.size + other.size:
                    self.assertTrue(works_both_ways(glue_over(one, other, pairs)))
