import itertools

from tests.helpers import Case, chosen_families, every_lot, gated_families, gated_row, plus
from tests.test_even import true_is_even
from tests.whole import (
    cut_lots, glued_lots_of, not_whole_ones, renumbered_by, true_glue, true_is_glued, whole_families, whole_of,
)
from turnlots.breaks import find_break, is_gated
from turnlots.errors import BadLot, BadThing, NotEven, NotGated, NotGlued, NotWhole, TooMany
from turnlots.even import unlike_parity
from turnlots.families import Family
from turnlots.glue import Glue, cut_off, put_back
from turnlots.partings import finest, hangs_together
from turnlots.small import in_of, out_of

BROKEN = Family.of(4, (), (0, 1, 2), (3,))
UNEVEN = Family.everything(3)
PARITY = Family.of(3, (), (0, 1), (0, 2), (1, 2))
ONE = Family.of(2, (0,), (1,))


def sides(step=1):
    """Even gated families with a loose thing, each with one of its loose things."""
    rows = [*gated_families(2), *gated_families(3)[::step], *gated_families(4)[:: 20 * step], *gated_row(5)]
    return [(family, p) for family in rows if true_is_even(family) for p in family.loose()]


def needed_error(family):
    """The error of a family that is not a whole one, None for a whole one: point 121."""
    found, unlike, parts = find_break(family), unlike_parity(family), finest(family)
    if found is not None:
        return NotGated(*found)
    if unlike is not None:
        return NotEven(*unlike)
    return NotWhole(parts[0]) if len(parts) > 1 else None


class GlueTest(Case):
    def test_point_122_the_lots(self):
        for (left, p), (right, q) in itertools.product(sides(2), sides(3)):
            glue = Glue(left, p, right, q)
            self.assertIs(type(glue.family), Family)
            self.assert_same(list(glue.family), glued_lots_of(left, p, right, q))
            out = out_of(left, p) * out_of(right, q)
            both = in_of(left, p) * in_of(right, q)
            self.assertEqual(sorted(out.lots + both.lots), list(glue.family))
            self.assert_same((glue.left_size, glue.right_size), (left.size - 1, right.size - 1))
            self.assert_same((len(glue), glue.family.size), (left.size + right.size - 2,) * 2)

    def test_attributes_are_what_was_passed(self):
        glue = Glue(PARITY, 1, ONE, 0)
        self.assertIs(glue.left, PARITY)
        self.assertIs(glue.right, ONE)
        self.assert_same((glue.left_link, glue.right_link), (1, 0))

    def test_point_122_which_thing_stands_for_which(self):
        for (left, p), (right, q) in itertools.product(sides(5), sides(7)):
            glue = Glue(left, p, right, q)
            first = [x for x in range(left.size) if x != p]
            second = [y for y in range(right.size) if y != q]
            self.assert_same([glue.left_thing(x) for x in first], list(range(len(first))))
            self.assert_same([glue.right_thing(y) for y in second], list(range(len(first), len(glue))))
            self.assert_same([glue.is_on_left(x) for x in range(len(glue))], [True] * len(first) + [False] * len(second))
            for lot, row in itertools.product(left.lots[:4], right.lots[:4]):
                things = [glue.left_thing(x) for x in lot if x != p] + [glue.right_thing(y) for y in row if y != q]
                self.assertTrue(glue.family.has(things) or (p in lot) != (q in row))

    def test_point_123_even_gated_and_whole_exactly_if_both_are(self):
        seen = set()
        for (left, p), (right, q) in itertools.product(sides(2), sides(3)):
            family = Glue(left, p, right, q).family
            self.assertTrue(true_is_even(family) and is_gated(family))
            both = hangs_together(left), hangs_together(right)
            self.assertEqual(hangs_together(family), all(both))
            seen.add(both)
            self.assertEqual(
                len(family),
                len(out_of(left, p)) * len(out_of(right, q)) + len(in_of(left, p)) * len(in_of(right, q)),
            )
        self.assertEqual(len(seen), 4)

    def test_what_is_equal(self):
        glue = Glue(PARITY, 2, ONE, 0)
        same = Glue(ONE ^ (0, 1), 1, Family.of(3, (), (0, 1), (0, 2), (1, 2)), 0)
        self.assertEqual(glue.family, same.family)
        self.assert_same([glue == same, glue != same, glue == Glue(PARITY, 0, ONE, 0)], [True, False, True])
        self.assert_same([glue == glue.family, glue == None, glue == Glue(ONE, 0, ONE, 0)], [False] * 3)  # noqa: E711

    def test_families_of_size_2_and_a_glue_of_size_10(self):
        self.assertEqual(Glue(ONE, 0, ONE, 0).family, Family.of(2, (), (0, 1)) ^ (0, 1))
        self.assertEqual(Glue(ONE, 0, Family.of(2, (), (0, 1)), 1).family, ONE)
        ten = Family(10, [lot for lot in every_lot(10) if len(lot) % 2 == 0])
        self.assertEqual(Glue(ten, 4, Family.of(2, (), (0, 1)), 0).family, ten)
        six = Family.sized(6, 3, 3)
        glue = Glue(six, 5, six, 0)
        self.assert_same((len(glue), glue.right_thing(5), glue.left_thing(4)), (10, 9, 4))
        self.assertEqual(len(glue.family), 2 * 10 * 10)

    def test_things_that_are_wrong(self):
        glue = Glue(PARITY, 1, Family.sized(4, 2, 2), 0)
        for thing in (-1, 3, 1, True, None, "0"):
            self.assert_error(BadThing(thing), glue.left_thing, thing)
        for thing in (-1, 4, 0, False, None):
            self.assert_error(BadThing(thing), glue.right_thing, thing)
        for thing in (-1, 5, True, None):
            self.assert_error(BadThing(thing), glue.is_on_left, thing)

    def test_errors_and_their_order(self):
        fixed = Family.of(3, (0,), (1,))
        six = Family.sized(6, 3, 3)
        for args, error in (
            ((six, None, Family.of(7, (0,)), None), TooMany("things")),
            ((Family.everything(10), 0, UNEVEN, 0), TooMany("things")),
            ((BROKEN, 4, BROKEN, 4), BadThing(4)), ((BROKEN, True, BROKEN, None), BadThing(True)),
            ((fixed, 2, BROKEN, None), BadThing(2)), ((BROKEN, 0, fixed, 2), BadThing(2)),
            ((BROKEN, 0, fixed, 3), BadThing(3)), ((BROKEN, 0, fixed, -1), BadThing(-1)),
            ((BROKEN, 0, UNEVEN, 0), NotGated(*find_break(BROKEN))), ((UNEVEN, 0, BROKEN, 0), NotEven((), (0,))),
            ((PARITY, 0, BROKEN, 0), NotGated(*find_break(BROKEN))), ((PARITY, 0, UNEVEN, 0), NotEven((), (0,))),
            # a family of size 1 with a loose thing is not even
            ((Family.everything(1), 0, PARITY, 0), NotEven((), (0,))), ((Family.of(1, ()), 0, BROKEN, 0), BadThing(0)),
            ((Family.everything(1), 0, Family.everything(1), 0), NotEven((), (0,))),
        ):
            self.assert_error(error, Glue, *args)


class CutOffTest(Case):
    def true_cut(self, family, lot):
        rest = tuple(x for x in range(family.size) if x not in lot)
        halves = []
        for things in (lot, rest):
            rows = set()
            for row in family:
                places = [place for place, x in enumerate(things) if x in row]
                rows.add(tuple(places + [len(things)] * (len(set(row) & set(lot)) % 2)))
            halves.append(Family(len(things) + 1, sorted(rows)))
        return tuple(halves)

    def test_point_124_cut_off_and_put_back(self):
        seen = {True: 0, False: 0}
        for family in whole_families():
            for lot in cut_lots(family.size):
                told = true_is_glued(family, lot)
                seen[told] += 1
                if not told:
                    self.assert_error(NotGlued(lot), cut_off, family, list(lot)[::-1])
                    continue
                pair = cut_off(family, list(lot)[::-1])
                self.assertIsInstance(pair, tuple)
                self.assertEqual(pair, self.true_cut(family, lot))
                for half in pair:
                    self.assertTrue(true_is_even(half) and is_gated(half) and hangs_together(half))
                self.assertEqual(put_back(*pair, lot), family)
                self.assertEqual(put_back(*pair, list(lot)[::-1]), family)
        self.assertGreater(min(seen.values()), 100)

    def test_point_124_glued_is_what_is_a_glue(self):
        families = [family for family in gated_families(3) if true_is_even(family)]
        glues = {
            true_glue(left, p, right, q).lots
            for left, right in itertools.product(families, families) for p in left.loose() for q in right.loose()
        }
        for family in whole_of(4):
            for lot in cut_lots(4):
                is_glue = renumbered_by(family, lot).lots in glues
                self.assertEqual(is_glue, true_is_glued(family, lot))
                rest = tuple(x for x in range(4) if x not in lot)
                self.assertEqual(is_glue, renumbered_by(family, rest).lots in glues)

    def test_point_124_just_two_pairs(self):
        threes = [family for family in gated_families(3) if true_is_even(family) and 2 in family.loose()]
        made = {}
        for left, right in itertools.product(threes, threes):
            made.setdefault(true_glue(left, 2, right, 2).lots, []).append((left.lots, right.lots))
        for family in whole_of(4):
            for lot in cut_lots(4):
                if true_is_glued(family, lot):
                    left, right = cut_off(family, lot)
                    turned = (left ^ (2,)).lots, (right ^ (2,)).lots
                    pairs = made[renumbered_by(family, lot).lots]
                    self.assertEqual(sorted(pairs), sorted([(left.lots, right.lots), turned]))

    def test_errors_of_cut_off_and_their_order(self):
        for family in [*not_whole_ones(), *chosen_families((4, 5))]:
            all_but_one = tuple(range(1, family.size))
            for lot, place in (
                (None, -1), ((0, family.size), 1), ((1, 1), 1), ([True], 0), ((), -1), ((0,), -1), (all_but_one, -1),
            ):
                self.assert_error(BadLot(place), cut_off, family, lot)
            error = needed_error(family)
            if error is not None:
                self.assert_error(error, cut_off, family, (1, 0))
        self.assertIsNone(needed_error(Family.sized(4, 2, 2)))
        self.assert_error(NotGlued((0, 1)), cut_off, Family.sized(4, 2, 2), [1, 0])
        for size in (1, 2, 3):
            for lot in every_lot(size):
                self.assert_error(BadLot(-1), cut_off, Family.everything(size), lot)

    def test_cut_off_at_size_10(self):
        ten = Family(10, [lot for lot in every_lot(10) if len(lot) % 2 == 0])
        left, right = cut_off(ten, (9, 4))
        self.assertEqual((left, right.size), (PARITY, 9))
        self.assertEqual(put_back(left, right, (4, 9)), ten)
        self.assertEqual(put_back(right, left, (0, 1, 2, 3, 5, 6, 7, 8)), ten)

    def test_put_back_is_the_glue_renumbered(self):
        for left, right in itertools.product(whole_of(3), whole_of(4)[::9]):
            for lot in ((0, 1), (0, 4), (1, 3), (3, 4)):
                found = put_back(left, right, lot)
                self.assertEqual(renumbered_by(found, lot), true_glue(left, 2, right, 3))

    def test_errors_of_put_back_and_their_order(self):
        six = Family.sized(6, 3, 3)
        for args, error in (
            ((six, Family.of(7, (0,)), None), TooMany("things")), ((BROKEN, PARITY, None), BadLot(-1)),
            ((BROKEN, PARITY, (0, 5)), BadLot(1)), ((BROKEN, PARITY, (0, 0, 1)), BadLot(1)),
            ((BROKEN, PARITY, (0, 1)), BadLot(-1)), ((BROKEN, PARITY, (0, 1, 2, 3)), BadLot(-1)),
            ((Family.of(3, (0,), (1,)), BROKEN, (0, 1)), BadThing(2)), ((PARITY, Family.of(3, (0,)), (0, 1)), BadThing(2)),
            ((Family.of(1, ()), Family.of(1, ()), ()), BadThing(0)), ((Family.of(1, ()), PARITY, (0,)), BadLot(-1)),
            ((BROKEN, UNEVEN, (0, 1, 2)), NotGated(*find_break(BROKEN))), ((UNEVEN, BROKEN, (0, 1)), NotEven((), (0,))),
            ((PARITY, BROKEN, (0, 1)), NotGated(*find_break(BROKEN))), ((PARITY, UNEVEN, (0, 1)), NotEven((), (0,))),
        ):
            self.assert_error(error, put_back, *args)
        self.assertEqual(put_back(ONE, ONE, (1,)), Glue(ONE, 1, ONE, 1).family)
        self.assertEqual(put_back(ONE, PARITY, [2]), Family(3, [plus(lot, (2,)) for lot in PARITY]))
