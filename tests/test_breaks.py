import itertools

from tests.helpers import (
    Case, all_breaks, are_alone, between, chosen_families, every_family, every_lot, gap_of,
    gated_families, gated_row, gated_sample, just_outside, plus, small_families, true_box,
    true_depth, true_gates, true_least,
)
from turnlots.breaks import (
    alone_far, break_sort, find_break, gateless, is_gated, near_break, needs_gated,
    outside_neighbours, partners, unequal,
)
from turnlots.errors import BadLot, BadNumber, BadThing, NotGated, NotInside
from turnlots.families import Family

ENDS = [Family.of(size, (), tuple(range(size))) for size in range(1, 11)]


def mixed_families():
    """All families of sizes 1 to 3, some of size 4 and a row of larger ones."""
    yield from small_families()
    yield from every_family(4, 997)
    yield from chosen_families()
    yield from ENDS[3:6]


def first(found):
    return found[0] if found else None


class PartnersTest(Case):
    def test_point_6_partners_by_their_definition(self):
        for family in itertools.chain(small_families(), chosen_families((4, 5), 3)):
            inside = set(family.lots)
            for one, other in itertools.product(family.lots, repeat=2):
                things = plus(one, other)
                for x in things:
                    expected = [y for y in things if plus(one, {x, y}) in inside]
                    self.assert_same(partners(family, one, other, x), expected)

    def test_point_6_a_thing_can_be_its_own_partner(self):
        family = Family.of(3, (), (0,), (0, 1), (0, 1, 2))
        self.assert_same(partners(family, (), (0, 1, 2), 0), [0, 1])
        self.assert_same(partners(family, (), [2, 1, 0], 2), [])

    def test_point_11_turned_families_have_the_same_partners(self):
        for family in chosen_families((4,), 4):
            for turn in every_lot(4)[::3]:
                turned = family ^ turn
                for one, other in itertools.product(family.lots[:4], family.lots[-4:]):
                    for x in plus(one, other):
                        there = partners(turned, plus(one, turn), plus(other, turn), x)
                        self.assertEqual(there, partners(family, one, other, x))

    def test_errors_and_their_order(self):
        family = Family.of(4, (0,), (1, 2), (0, 1, 2, 3))
        for function in (partners, break_sort):
            self.assert_error(BadLot(1), function, family, (0, 0), None, None)
            self.assert_error(BadLot(-1), function, family, (0,), None, None)
            self.assert_error(BadLot(2), function, family, (3,), (0, 1, 4), None)
            for thing in (None, -1, 4, True, "0"):
                self.assert_error(BadThing(thing), function, family, (3,), (2,), thing)
            self.assert_error(BadThing(3), function, family, (0,), (1, 2), 3)
            self.assert_error(BadThing(0), function, family, (0,), (0,), 0)
            self.assert_error(NotInside((2, 3)), function, family, [3, 2], (2,), 3)
            self.assert_error(NotInside((2,)), function, family, (0,), (2,), 2)


class BreaksTest(Case):
    def test_point_6_the_first_break_by_the_definition(self):
        for family in mixed_families():
            breaks = all_breaks(family)
            self.assert_same(find_break(family), first(breaks))
            self.assert_same(is_gated(family), not breaks)
            near = [found for found in breaks if gap_of(found[0], found[1]) in (3, 4)]
            self.assert_same(near_break(family), first(near))
            if breaks:
                self.assert_error(NotGated(*breaks[0]), needs_gated, family)
            else:
                self.assertIs(needs_gated(family), None)

    def test_point_6_no_break_has_a_gap_below_3(self):
        for family in mixed_families():
            for one, other, _ in all_breaks(family):
                self.assertGreaterEqual(gap_of(one, other), 3)

    def test_point_6_families_of_size_1_or_2_or_of_one_lot_are_gated(self):
        for family in itertools.chain(every_family(1), every_family(2)):
            self.assertIs(is_gated(family), True)
        for size in (3, 5, 10):
            for lot in every_lot(size)[::size]:
                self.assertIs(is_gated(Family.of(size, lot)), True)

    def test_gaps_of_3_of_4_and_of_5_or_more(self):
        for size, family in enumerate(ENDS, 1):
            end = tuple(range(size))
            found = ((), end, 0) if size >= 3 else None
            self.assert_same(find_break(family), found)
            self.assert_same(near_break(family), found if size in (3, 4) else None)
            self.assert_same(alone_far(family), ((), end) if size >= 5 else None)
            if size >= 3:
                self.assert_same(break_sort(family, (), end, size - 1), min(size, 5))
                self.assert_same(gateless(family), ((0,), end))
                self.assert_same(unequal(family), ((0,), (), end))

    def test_many_lots_of_ten_things(self):
        even = Family(10, [lot for lot in every_lot(10) if len(lot) % 2 == 0])
        for question in (find_break, gateless, unequal, alone_far, near_break):
            self.assertIs(question(even), None)
            self.assertIs(question(Family.everything(10)), None)
        holed = Family(10, [lot for lot in every_lot(10) if len(lot) > 2 or len(lot) == 0])
        self.assert_same(find_break(holed), ((), (0, 1, 2), 0))
        self.assert_same(gateless(holed), ((0,), (0, 1, 2)))


class TestsTest(Case):
    """Point 7: each test for itself, by its words, held against the breaks."""

    def test_point_7_gates(self):
        for family in mixed_families():
            ungated = [
                (lot, inner) for lot in every_lot(family.size) for inner in family.lots
                if not true_gates(family, lot, inner)
            ]
            self.assert_same(gateless(family), first(ungated))
            self.assertEqual(bool(ungated), bool(all_breaks(family)))

    def test_point_7_least_lots_of_one_gap(self):
        for family in mixed_families():
            found = None
            for lot in every_lot(family.size):
                least = true_least(family, lot)
                others = [row for row in least if gap_of(row, lot) != gap_of(least[0], lot)]
                if others and found is None:
                    found = (lot, least[0], others[0])
            self.assert_same(unequal(family), found)
            self.assertEqual(found is None, is_gated(family))

    def test_point_7_lots_just_outside(self):
        for family in mixed_families():
            inside = set(family.lots)
            answers = []
            least = []
            for lot in just_outside(family):
                steps = [plus(lot, (x,)) for x in range(family.size) if plus(lot, (x,)) in inside]
                answers.extend(
                    any(between(step, lot, inner) for step in steps) for inner in family.lots
                )
                least.extend(gap_of(row, lot) == 1 for row in true_least(family, lot))
            self.assertEqual(all(answers), is_gated(family))
            self.assertEqual(all(least), is_gated(family))

    def test_point_7_near_breaks_and_lots_alone(self):
        for family in mixed_families():
            far = [
                (one, other) for one, other in itertools.combinations(family.lots, 2)
                if gap_of(one, other) >= 5 and are_alone(family, one, other)
            ]
            self.assert_same(alone_far(family), first(far))
            self.assertEqual(near_break(family) is None and not far, is_gated(family))

    def test_alone_far_of_several(self):
        family = Family.of(7, (), (0, 1, 2, 3, 4), (0, 1, 2, 3, 5), (0, 1, 2, 4, 6))
        self.assert_same(alone_far(family), ((), (0, 1, 2, 3, 4)))

    def test_point_7_boxes(self):
        for family in itertools.chain(small_families(), chosen_families((4, 5), 3)):
            boxes = [
                Family(family.size, true_box(family, one, other))
                for one, other in itertools.combinations(family.lots, 2)
            ]
            self.assertEqual(all(is_gated(box) for box in boxes), is_gated(family))


class LeastBreaksTest(Case):
    def test_point_9_breaks_of_the_least_gap(self):
        for family in mixed_families():
            breaks = all_breaks(family)
            least = min([gap_of(one, other) for one, other, _ in breaks], default=0)
            for one, other, thing in breaks:
                if gap_of(one, other) == least:
                    self.check_inner_lots(family, one, other, thing)

    def check_inner_lots(self, family, one, other, thing):
        things = plus(one, other)
        gap = len(things)
        inner = [
            plus(lot, one) for lot in true_box(family, one, other) if lot not in (one, other)
        ]
        for lot in inner:
            self.assertNotIn(thing, lot)
            self.assertIn(len(lot), (gap - 1, gap - 2))
        if gap == 4 and any(len(lot) == 3 for lot in inner):
            twos = [pair for pair in itertools.combinations(things, 2) if thing not in pair]
            self.assertEqual([lot for lot in inner if len(lot) == 2], twos)
        if gap >= 5:
            self.assertEqual(inner, [])
            self.assertTrue(are_alone(family, one, other))

    def test_point_9_a_gap_of_4_with_lots_between(self):
        family = Family.of(4, (), (1, 2), (1, 3), (2, 3), (1, 2, 3), (0, 1, 2, 3))
        self.assertIn(((), (0, 1, 2, 3), 0), all_breaks(family))
        self.assert_same(break_sort(family, (), (0, 1, 2, 3), 0), 4)

    def test_break_sort(self):
        for family in mixed_families():
            breaks = all_breaks(family)
            least = min([gap_of(one, other) for one, other, _ in breaks], default=0)
            for one, other in itertools.product(family.lots[:6], family.lots[-6:]):
                for x in plus(one, other):
                    if (one, other, x) in breaks and gap_of(one, other) == least:
                        self.assert_same(break_sort(family, one, other, x), min(least, 5))
                    else:
                        self.assert_error(BadNumber("gap"), break_sort, family, one, other, x)

    def test_break_sort_takes_lots_in_any_order(self):
        self.assert_same(break_sort(ENDS[3], [], [3, 2, 1, 0], 2), 4)
        self.assert_same(break_sort(ENDS[9], list(range(9, -1, -1)), (), 2), 5)

    def test_a_break_is_refused_if_another_one_is_smaller(self):
        family = Family.of(5, (), (0, 1, 2), (0, 1, 2, 3, 4))
        self.assert_same(break_sort(family, (), (0, 1, 2), 0), 3)
        self.assertIn(((), (0, 1, 2, 3, 4), 0), all_breaks(family))
        self.assert_error(BadNumber("gap"), break_sort, family, (), (0, 1, 2, 3, 4), 0)


class GapsTest(Case):
    def test_point_10_gaps_of_gated_families_rise_by_2_at_most(self):
        for family in gated_sample():
            for lot in every_lot(family.size):
                gaps = sorted({gap_of(lot, row) for row in family.lots})
                self.assertTrue(all(b - a <= 2 for a, b in zip(gaps, gaps[1:])))

    def test_point_10_few_neighbours_outside(self):
        seen = 0
        for family in itertools.chain(small_families(), every_family(4, 13)):
            lone = True
            for lot in every_lot(family.size):
                if not family.has(lot):
                    lone = lone and outside_neighbours(family, lot) <= 1
            if lone:
                seen += 1
                self.assertTrue(is_gated(family))
        self.assertGreater(seen, 50)

    def test_outside_neighbours(self):
        for family in itertools.chain(small_families(), chosen_families((4, 5), 3)):
            for lot in every_lot(family.size):
                around = [plus(lot, (x,)) for x in range(family.size)]
                many = len([row for row in around if true_depth(family, row) > 0])
                self.assert_same(outside_neighbours(family, lot[::-1]), many)
        self.assert_error(BadLot(-1), outside_neighbours, Family.of(2, ()), 1)
        self.assert_error(BadLot(1), outside_neighbours, Family.of(2, ()), (0, 2))

    def test_point_14_the_first_of_several(self):
        family = Family.of(4, (1,), (0, 2, 3), (0, 2))
        self.assert_same(all_breaks(family)[:2], [((0, 2), (1,), 0), ((0, 2), (1,), 1)])
        self.assert_same(find_break(family), ((0, 2), (1,), 0))


class SameAgainTest(Case):
    def test_point_1_equal_answers_in_whatever_order(self):
        family = next(iter(chosen_families((5,), 1)))
        questions = [find_break, gateless, unequal, alone_far, near_break, is_gated]
        before = [question(family) for question in questions]
        after = [question(Family(5, list(family.lots)[::-1])) for question in questions[::-1]]
        self.assert_same(after[::-1], before)
        self.assert_same([question(family) for question in questions], before)

    def test_point_1_answers_are_new(self):
        self.assert_new(partners, Family.of(3, (), (0,), (0, 1)), (), (0, 1), 0)

    def test_gated_families_have_nothing_to_show(self):
        for family in itertools.chain(gated_families(3)[::5], gated_families(4)[::300], gated_row(6)):
            for question in (find_break, gateless, unequal, alone_far, near_break, needs_gated):
                self.assertIs(question(family), None)
