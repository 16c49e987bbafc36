import itertools
import random

from tests.helpers import (
    Case, chosen_families, every_family, every_lot, gated_families, gated_row, gated_sample,
    small_families,
)
from tests.test_book import some_wishes, true_best, worth_of
from turnlots.book import best_lots, best_value
from turnlots.breaks import is_gated
from turnlots.critical import Critical, critical, enters, reasons, unreasoned
from turnlots.errors import BadThing, BadWish
from turnlots.families import Family
from turnlots.neighbours import are_neighbours
from turnlots.small import in_of, out_of
from turnlots.wishes import Wish


def true_critical(family, wish, x):
    """The critical wish of x, None if it is fixed: point 64, word by word."""
    lacking = [worth_of(wish, lot) for lot in family if x not in lot]
    having = [worth_of(wish, lot) - wish[x] for lot in family if x in lot]
    return max(lacking) - max(having) if lacking and having else None


def true_reasons(wish, x, value):
    found = [(-1, 0)] if value == 0 else []
    for y in range(len(wish)):
        if y != x and wish[y] == value:
            found.append((y, 1))
        if y != x and -wish[y] == value:
            found.append((y, -1))
    return found


def families():
    yield from small_families()
    yield from gated_families(4)[::200]
    yield from every_family(4, 7001)
    yield from chosen_families((5, 6), 1)


class CriticalTest(Case):
    def test_point_64_critical_wishes_and_reasons(self):
        for family in families():
            for wish in some_wishes(family.size, 2):
                for x in range(family.size):
                    value = true_critical(family, wish, x)
                    self.assert_same(critical(family, list(wish), x), value)
                    self.assert_same(Critical(family, x)(Wish(*wish)), value)
                    expected = [] if value is None else true_reasons(wish, x, value)
                    self.assert_same(reasons(family, Wish(*wish), x), expected)

    def test_point_64_critical_objects(self):
        family = Family.of(3, (0,), (1,))
        asked = Critical(family, 1)
        self.assertEqual((asked.family, asked.thing), (family, 1))
        self.assert_same([asked(wish) for wish in ((5, 0, 0), [-7, 1, 1])], [5, -7])
        self.assertIsNone(Critical(family, 2)((1, 2, 3)))

    def test_point_64_reasons_of_0(self):
        family = Family.everything(3)
        self.assert_same(reasons(family, (5, 0, 2), 0), [(-1, 0), (1, 1), (1, -1)])
        self.assert_same(reasons(family, (5, 0, 0), 1), [(-1, 0), (2, 1), (2, -1)])
        # a fixed thing may be a reason, and has none itself
        fixed = Family.of(3, (), (0,))
        self.assert_same(reasons(fixed, (9, 0, 0), 0), [(-1, 0), (1, 1), (1, -1), (2, 1), (2, -1)])
        self.assert_same(reasons(fixed, (9, 0, 0), 1), [])
        self.assertIsNone(critical(fixed, (9, 0, 0), 1))

    def test_point_64_sizes_1_and_10(self):
        self.assert_same(critical(Family.everything(1), (7,), 0), 0)
        self.assertIsNone(critical(Family.of(1, ()), (7,), 0))
        wish = tuple(10 ** 28 + x for x in range(10))
        ten = Family.sized(10, 5, 5)
        self.assert_same(critical(ten, wish, 0), 10 ** 28 + 5)
        self.assert_same(critical(ten, wish, 9), 10 ** 28 + 4)
        self.assert_same(reasons(ten, wish, 9), [(4, 1)])

    def test_point_65_the_number_of_the_thing_makes_no_difference(self):
        for family in families():
            for wish in some_wishes(family.size, 1):
                for x in family.loose():
                    value = critical(family, wish, x)
                    for number in (-9, 0, value - 1, value, value + 1):
                        self.check_number(family, Wish(*wish).put(x, number), x, value)

    def check_number(self, family, wish, x, value):
        self.assertEqual(critical(family, wish, x), value)
        lots = true_best(family, wish)
        self.assertEqual(any(x in lot for lot in lots), wish[x] >= value)
        self.assertEqual(any(x not in lot for lot in lots), wish[x] <= value)

    def test_point_65_a_change_of_one_other_number(self):
        for family in families():
            for wish in some_wishes(family.size, 1):
                for x in family.loose():
                    for y in set(range(family.size)) - {x}:
                        rises = [Wish(*wish).put(y, wish[y] + d) for d in range(-4, 5)]
                        values = [critical(family, rise, x) for rise in rises]
                        steps = [b - a for a, b in zip(values, values[1:])]
                        self.assertLessEqual(max(abs(step) for step in steps), 1)

    def test_point_65_never_rises_or_never_falls(self):
        for family in [*every_family(3, 3), *chosen_families((4, 5), 2)]:
            for wish in some_wishes(family.size, 1):
                for x, y in itertools.permutations(range(family.size), 2):
                    if x in family.loose():
                        values = [critical(family, Wish(*wish).put(y, number), x) for number in range(-8, 9)]
                        steps = [b - a for a, b in zip(values, values[1:])]
                        self.assertFalse(min(steps) < 0 < max(steps))

    def test_point_65_turned(self):
        for family in families():
            for wish in some_wishes(family.size, 1):
                for lot in every_lot(family.size)[::5]:
                    turned = Wish(*wish).turned(lot)
                    for x in family.loose():
                        value = critical(family, wish, x)
                        expected = -value if x in lot else value
                        self.assertEqual(critical(family ^ lot, turned, x), expected)

    def test_point_65_side_by_side(self):
        for one, other in itertools.product(every_family(2), every_family(3, 29)):
            for wish in some_wishes(5, 1):
                for x in range(5):
                    part = (one, wish[:2], x) if x < 2 else (other, wish[2:], x - 2)
                    self.assertEqual(critical(one * other, wish, x), critical(*part))


class EntersTest(Case):
    def test_point_64_enters(self):
        for family in families():
            for wish in some_wishes(family.size, 2):
                lots = true_best(family, wish)
                for x in range(family.size):
                    having = sum(x in lot for lot in lots)
                    word = "in" if having == len(lots) else "either" if having else "out"
                    self.assert_same(enters(family, wish, x), word)

    def test_point_65_enters_by_the_critical_wish(self):
        for family in families():
            for wish in some_wishes(family.size, 1):
                for x in family.loose():
                    value = critical(family, wish, x)
                    word = "in" if wish[x] > value else "out" if wish[x] < value else "either"
                    self.assert_same(enters(family, wish, x), word)

    def test_fixed_things(self):
        family = Family.of(3, (0,), (0, 1))
        self.assert_same([enters(family, (-5, 0, 5), x) for x in range(3)], ["in", "either", "out"])


class ReasonsOfGatedFamiliesTest(Case):
    def test_point_66_each_critical_wish_of_a_gated_family_has_a_reason(self):
        for family in gated_sample():
            for wish in some_wishes(family.size, 3):
                for x in family.loose():
                    self.assertTrue(reasons(family, wish, x))

    def test_point_66_unreasoned(self):
        seen = 0
        for family in [*small_families(), *every_family(4, 97), *chosen_families((5, 6, 10), 3)]:
            found = unreasoned(family)
            self.assertEqual(found is None, is_gated(family))
            if found is not None:
                self.assertIs(type(found), tuple)
                wish, x = found
                self.assertIs(type(wish), Wish)
                self.assertIn(x, family.loose())
                self.assertEqual(true_reasons(wish, x, true_critical(family, wish, x)), [])
                seen += 1
        self.assertGreater(seen, 500)

    def test_point_67_bounds(self):
        for family in gated_sample():
            for wish, change in itertools.product(some_wishes(family.size, 1), repeat=2):
                for x in family.loose():
                    value = critical(family, wish, x)
                    others = [abs(number) for y, number in enumerate(wish) if y != x]
                    self.assertLessEqual(abs(value), max(others, default=0))
                    moved = critical(family, Wish(*wish) + Wish(*change), x)
                    self.assertLessEqual(abs(moved - value), Wish(*change).greatest)

    def test_point_69_neighbours_by_wishes(self):
        chooser = random.Random(5)
        for size in (2, 3):
            for _ in range(60):
                one, other = chooser.choice(gated_families(size)), chooser.choice(gated_families(size))
                told = all(self.difference_told(one, other, wish) for wish in self.many_wishes(size))
                self.assertEqual(told, are_neighbours(one, other))

    def many_wishes(self, size):
        yield from itertools.product((-4, -2, -1, 0, 1, 2, 4), repeat=size)

    def difference_told(self, one, other, wish):
        change = abs(best_value(one, wish) - best_value(other, wish))
        return change == 0 or change in [abs(number) for number in wish]

    def test_point_69_gated_by_the_reasons_of_one_thing(self):
        seen = {True: 0, False: 0}
        for family in every_family(3):
            for x in family.loose():
                if is_gated(out_of(family, x)) and is_gated(in_of(family, x)):
                    told = all(reasons(family, wish, x) for wish in self.many_wishes(3))
                    self.assertEqual(told, is_gated(family))
                    seen[told] += 1
        self.assertGreater(min(seen.values()), 10)

    def test_point_67_gated_rows_of_size_10(self):
        for family in itertools.islice(gated_row(10), 1, None):
            wish = next(itertools.islice(some_wishes(10, 2), 4, None))
            self.assertTrue(all(reasons(family, wish, x) for x in family.loose()))
            self.assertEqual(best_lots(family, wish), true_best(family, wish))


class ErrorsTest(Case):
    def test_wishes_go_before_things(self):
        family = Family.of(2, (0,), (1,))
        for wish, place in ((None, -1), ((1,), -2), (Wish(1, 2, 3), -2), ((1, None), 1), ([True, 2], 0)):
            for call in (critical, enters, reasons):
                self.assert_error(BadWish(place), call, family, wish, 7)
            self.assert_error(BadWish(place), Critical(family, 0), wish)

    def test_things(self):
        family = Family.of(2, (0,), (1,))
        for thing in (-1, 2, True, None, "0", 0.0):
            for call in (critical, enters, reasons):
                self.assert_error(BadThing(thing), call, family, (1, 2), thing)
            self.assert_error(BadThing(thing), Critical, family, thing)
