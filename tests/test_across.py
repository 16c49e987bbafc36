import itertools

from tests.helpers import Case, every_lot, true_depth
from tests.test_book import some_wishes
from tests.test_bothways import both_ways_sample
from tests.test_glue import BROKEN, PARITY, UNEVEN, sides
from tests.test_pieces import one_away, parity_family
from tests.whole import larger_whole, tree_families, true_is_glued, whole_of
from turnlots.across import glue_bonds, glue_critical, glue_depths, near, tree_sorts
from turnlots.bonds import bonds
from turnlots.book import best_value
from turnlots.breaks import find_break
from turnlots.counts import added, depth_list, multiplied, pushed
from turnlots.critical import critical
from turnlots.errors import BadThing, BadWish, NotEven, NotGated
from turnlots.families import Family
from turnlots.glue import Glue
from turnlots.lifts import lift
from turnlots.onelot import is_turned_matroid
from turnlots.partings import hangs_together
from turnlots.sides import right_side
from turnlots.small import in_of, out_of
from turnlots.trees import Tree
from turnlots.wishes import Wish


def true_near(family, link):
    outs, ins = out_of(family, link), in_of(family, link)
    lists = [], []
    for lot in every_lot(family.size - 1):
        depths = true_depth(outs, lot), true_depth(ins, lot)
        lists[depths.index(min(depths))].append(min(depths))
    return tuple(tuple(row.count(j) for j in range(max(row) + 1)) for row in lists)


def many_depths(left, p, right, q):
    """The depth list of a glue of any size, counted over all lots of its things."""
    first = [x for x in range(left.size) if x != p]
    second = [y for y in range(right.size) if y != q]
    depths = [left.size + right.size] * (1 << (len(first) + len(second)))
    for lot, row in itertools.product(left, right):
        if (p in lot) == (q in row):
            mask = sum(1 << k for k, x in enumerate(first) if x in lot)
            depths[mask + sum(1 << (len(first) + k) for k, y in enumerate(second) if y in row)] = 0
    for bit in [1 << k for k in range(len(first) + len(second))]:
        depths = [min(depth, depths[mask ^ bit] + 1) for mask, depth in enumerate(depths)]
    return tuple(depths.count(j) for j in range(max(depths) + 1))


def glues():
    for (left, p), (right, q) in itertools.product(sides(4), sides(7)):
        yield Glue(left, p, right, q)
    threes = [(family, p) for family, p in sides() if family.size < 4]
    for (left, p), (right, q) in itertools.product(threes[::2], threes[1::3]):
        yield Glue(left, p, right, q)
    for left, right in itertools.product(larger_whole()[::11], whole_of(3)[::3]):
        yield Glue(left, left.size - 1, right, 0)


class NearTest(Case):
    def test_point_133_the_lists(self):
        for family, p in [*sides(), *((family, 2) for family in larger_whole()[::4])]:
            lists = near(family, p)
            self.assert_same(lists, true_near(family, p))
            out, both = lists
            self.assertTrue(out[-1] > 0 and both[-1] > 0)
            self.assertEqual(depth_list(out_of(family, p)), added(out, pushed(both)))
            self.assertEqual(depth_list(in_of(family, p)), added(both, pushed(out)))

    def test_point_133_depths_that_differ_by_one(self):
        for family, p in sides(2):
            outs, ins = out_of(family, p), in_of(family, p)
            for lot in every_lot(family.size - 1):
                self.assertEqual(abs(true_depth(outs, lot) - true_depth(ins, lot)), 1)

    def test_sizes_2_and_10(self):
        self.assert_same(near(Family.of(2, (), (0, 1)), 0), ((1,), (1,)))
        self.assert_same(near(parity_family(10, 0), 9), ((256,), (256,)))

    def test_errors_and_their_order(self):
        fixed = Family.of(3, (0,), (1,))
        for family, link, error in (
            (BROKEN, 4, BadThing(4)), (BROKEN, -1, BadThing(-1)), (BROKEN, True, BadThing(True)), (BROKEN, None, BadThing(None)),
            (fixed, 2, BadThing(2)), (Family.of(1, ()), 0, BadThing(0)), (BROKEN, 0, NotGated(*find_break(BROKEN))),
            (UNEVEN, 1, NotEven((), (0,))), (Family.everything(1), 0, NotEven((), (0,))),
        ):
            self.assert_error(error, near, family, link)


class DepthsTest(Case):
    def test_point_133_the_depth_list_of_a_glue(self):
        for glue in glues():
            parts = (glue.left, glue.left_link, glue.right, glue.right_link)
            found = glue_depths(*parts)
            self.assert_same(found, depth_list(glue.family))
            (p0, p1), (q0, q1) = near(*parts[:2]), near(*parts[2:])
            same = added(multiplied(p0, q0), multiplied(p1, q1))
            unlike = added(multiplied(p0, q1), multiplied(p1, q0))
            self.assertEqual(found, added(same, pushed(unlike)))

    def test_sizes_that_add_up_to_more_than_12(self):
        six, seven = Family.sized(6, 3, 3), Family.sized(7, 3, 3)
        for left, right in ((seven, six ^ (0, 1)), (seven, seven), (one_away(7, (2,)), parity_family(7, 1)), (seven ^ (3,), one_away(8, ()))):
            self.assert_same(glue_depths(left, 2, right, 5), many_depths(left, 2, right, 5))
        ten = parity_family(10, 0)
        self.assert_same(glue_depths(ten, 0, ten, 9), (2 ** 17, 2 ** 17))
        self.assertEqual(sum(glue_depths(Family.sized(10, 5, 5), 0, one_away(10, ()), 3)), 2 ** 18)

    def test_errors_and_their_order(self):
        fixed = Family.of(3, (0,), (1,))
        ten = Family.everything(10)
        for args, error in (
            ((BROKEN, 4, BROKEN, 4), BadThing(4)), ((BROKEN, 0, fixed, 2), BadThing(2)), ((fixed, 2, ten, None), BadThing(2)),
            ((ten, 0, ten, 10), BadThing(10)), ((ten, 0, BROKEN, 0), NotEven((), (0,))),
            ((BROKEN, 0, ten, 0), NotGated(*find_break(BROKEN))), ((PARITY, 0, ten, 0), NotEven((), (0,))),
            ((PARITY, 0, BROKEN, 0), NotGated(*find_break(BROKEN))),
        ):
            self.assert_error(error, glue_depths, *args)


class BondsAcrossTest(Case):
    def test_point_134_bonds_of_a_glue(self):
        sorts = set()
        for glue in glues():
            found = bonds(glue.family)
            self.assert_same(glue_bonds(glue), found)
            sorts |= {mark[2:] for mark in found if glue.is_on_left(mark[0]) and not glue.is_on_left(mark[1])}
        self.assertEqual(sorts, {(True, False), (False, True), (True, True)})
        self.assert_new(glue_bonds, Glue(PARITY, 0, PARITY, 1))

    def test_point_134_turned_matroids(self):
        seen = {"turned matroid": 0, "not": 0}
        for family in [*whole_of(3), *whole_of(4), *larger_whole(), *tree_families()]:
            told = "turned matroid" if is_turned_matroid(family) else "not"
            self.assert_same(tree_sorts(Tree(family)), told)
            self.assertEqual(right_side(family) is not None, told == "turned matroid")
            seen[told] += 1
        self.assertGreater(min(seen.values()), 30)


class WishesAcrossTest(Case):
    def test_point_135_critical_wishes_of_a_glue(self):
        fixed = 0
        for glue in glues():
            for numbers in some_wishes(len(glue), 1):
                for x in range(len(glue)):
                    expected = critical(glue.family, numbers, x)
                    self.assert_same(glue_critical(glue, numbers, x), expected)
                    fixed += expected is None
        self.assertGreater(fixed, 10)

    def test_wishes_of_each_kind(self):
        glue = Glue(PARITY, 1, Family.sized(4, 2, 2), 0)
        for x in range(5):
            expected = critical(glue.family, (3, -1, 4, 1, -5), x)
            for wish in ((3, -1, 4, 1, -5), [3, -1, 4, 1, -5], Wish(3, -1, 4, 1, -5)):
                self.assert_same(glue_critical(glue, wish, x), expected)

    def test_point_135_best_values(self):
        for glue in glues():
            for numbers in some_wishes(len(glue), 1):
                left, right = numbers[:glue.left_size], numbers[glue.left_size:]
                sums = [
                    best_value(call(glue.left, glue.left_link), left) + best_value(call(glue.right, glue.right_link), right)
                    for call in (out_of, in_of)
                ]
                self.assertEqual(best_value(glue.family, numbers), max(sums))

    def test_point_135_lifts_of_families_side_by_side(self):
        seen = 0
        ones = [family for family in both_ways_sample() if family.size < 5]
        for one, other in itertools.product(ones[::4], ones[::5]):
            if one.size > 1 and one.size + other.size < 8:
                lifted = lift(one * other)
                if hangs_together(lifted):
                    seen += 1
                    self.assertTrue(true_is_glued(lifted, tuple(range(one.size))))
        self.assertGreater(seen, 30)

    def test_errors_and_their_order(self):
        glue = Glue(PARITY, 0, PARITY, 0)
        for wish, place in ((None, -1), ("0000", -1), ((1, 2, 3), -2), ((0,) * 5, -2), ((0, 1, True, None), 2), (Wish(1), -2)):
            self.assert_error(BadWish(place), glue_critical, glue, wish, None)
        for thing in (-1, 4, True, None, "0"):
            self.assert_error(BadThing(thing), glue_critical, glue, (0, 0, 0, 0), thing)
