import itertools

from tests.helpers import (
    Case, chosen_families, every_family, every_lot, gap_of, gated_families, gated_row, plus,
    small_families,
)
from tests.test_bonds import true_marks
from turnlots.errors import BadLot
from turnlots.families import Family
from turnlots.full import is_full
from turnlots.partings import chains
from turnlots.sides import is_right, odd_ring, right_side, right_sides, turned_full, wrong_bond


def true_wrong(marks, lot):
    """The first bond that the lot is not right for: point 86, word by word."""
    for x, y, rivals, mates in marks:
        count = (x in lot) + (y in lot)
        if rivals and count == 1:
            return x, y, "rivals"
        if mates and count != 1:
            return x, y, "mates"
    return None


def families():
    yield from small_families()
    yield from gated_families(4)[::40]
    yield from every_family(4, 701)
    yield from chosen_families((5, 6), 3)


def turned_rows():
    """Families of lots of one size and full ones, turned: there are right lots."""
    for size in (3, 4, 5):
        for turn in every_lot(size)[::3]:
            yield Family.sized(size, 1, 2) ^ turn
            yield Family.sized(size, 2, 2) ^ turn


class RightLotsTest(Case):
    def test_point_86_right_lots_and_wrong_bonds(self):
        seen = {True: 0, False: 0}
        for family in [*families(), *turned_rows()]:
            marks = true_marks(family)
            wrong = {lot: true_wrong(marks, lot) for lot in every_lot(family.size)}
            right = [lot for lot in wrong if wrong[lot] is None]
            for lot in wrong:
                self.assert_same(wrong_bond(family, list(lot)[::-1]), wrong[lot])
                self.assert_same(is_right(family, lot), wrong[lot] is None)
            self.assert_same(right_sides(family), right)
            self.assert_same(right_side(family), right[0] if right else None)
            seen[right == []] += 1
        self.assertGreater(min(seen.values()), 20)

    def test_point_86_how_many_right_lots(self):
        for family in [*families(), *turned_rows()]:
            found = right_sides(family)
            self.assertIn(len(found), (0, 1 << len(chains(family))))
            self.assertEqual(found == [], odd_ring(family) is not None)

    def test_point_86_turned_by_right_lots(self):
        for family in [*gated_families(3), *gated_families(4)[::60], *gated_row(5), *gated_row(6)]:
            right = right_sides(family)
            one_parity = len({len(lot) % 2 for lot in family}) == 1
            for lot in every_lot(family.size):
                turned = family ^ lot
                self.assertEqual(is_full(turned), lot in right)
                one_size = len({len(row) for row in turned}) == 1
                self.assertEqual(one_size, lot in right and one_parity)

    def test_point_86_turned_full(self):
        for family in [*families(), *turned_rows()]:
            found, side = turned_full(family), right_side(family)
            if side is None:
                self.assertIsNone(found)
            else:
                self.assertEqual(found, (side, family ^ side))
                self.assertIsInstance(found, tuple)

    def test_things_that_are_rivals_and_mates(self):
        family = Family.of(3, (), (0, 1), (0, 2), (1, 2))
        for lot in every_lot(3):
            x, y, word = wrong_bond(family, lot)
            self.assertEqual((x, y), (0, 1))
            self.assertEqual(word, "rivals" if (0 in lot) != (1 in lot) else "mates")
        self.assertIsNone(turned_full(family))

    def test_sizes_1_and_10(self):
        self.assert_same(right_sides(Family.everything(1)), [(), (0,)])
        self.assert_same(right_sides(Family.everything(10)), every_lot(10))
        self.assert_same(right_sides(Family.sized(10, 5, 5) ^ (0, 3)), [(0, 3), (1, 2, 4, 5, 6, 7, 8, 9)])
        self.assert_same(odd_ring(Family.everything(10)), None)


def family_of_bonds(size, marks):
    """A family with just the bonds (x, y, word) of the marks, each made far from the others."""
    lots = []
    for x, y, word in marks:
        for lot in every_lot(size):
            new = [plus(lot, (x,)), plus(lot, (y,))]
            gaps = [gap_of(*pair) for pair in itertools.product(new, lots)]
            if ((x in lot) != (y in lot)) == (word == "mates") and min(gaps, default=3) > 2:
                lots += new
                break
    return Family(size, lots)


def ring_of(words, first):
    """The marks of a ring that begins with a thing, with these words for its bonds."""
    things = [first + place for place in range(len(words))]
    return list(zip(things, things[1:] + things[:1], words))


class OddRingTest(Case):
    def test_point_86_odd_rings(self):
        for family in [*families(), *turned_rows()]:
            found = odd_ring(family)
            if found is None:
                self.assertIsNotNone(right_side(family))
            else:
                self.assertIsNone(right_side(family))
                self.check_ring(family, found)

    def test_point_86_one_ring_of_each_length(self):
        for size in (3, 4, 5, 6):
            for mates in range(size + 1):
                words = ["mates"] * mates + ["rivals"] * (size - mates)
                self.check_one_ring(ring_of(words, 0), size, mates)

    def test_point_86_one_ring_far_from_the_least_thing(self):
        way = [(0, 2, "rivals"), (1, 2, "mates"), (1, 3, "rivals")]
        for words in (["mates"] + ["rivals"] * 4, ["rivals"] * 2 + ["mates"], ["mates"] * 3 + ["rivals"]):
            self.check_one_ring(way + ring_of(words, 3), len(words), words.count("mates"))

    def check_one_ring(self, marks, size, mates):
        family = family_of_bonds(10, marks)
        self.assertEqual(len(true_marks(family)), len(marks))
        found = odd_ring(family)
        self.assertEqual(found is not None, mates % 2 == 1)
        if found is not None:
            self.check_ring(family, found)
            self.assertEqual(len(found), size)

    def check_ring(self, family, found):
        self.assertIsInstance(found, list)
        marks = {(x, y): (rivals, mates) for x, y, rivals, mates in true_marks(family)}
        things = [x for x, _, _ in found]
        self.assertEqual(len(set(things)), len(things))
        self.assertGreaterEqual(len(things), 2)
        self.assertEqual([y for _, y, _ in found], things[1:] + things[:1])
        for x, y, word in found:
            rivals, mates = marks[(min(x, y), max(x, y))]
            self.assertTrue(rivals if word == "rivals" else mates)
        words = [word for _, _, word in found]
        self.assertTrue(set(words) <= {"rivals", "mates"})
        self.assertEqual(words.count("mates") % 2, 1)
        if len(found) == 2:
            self.assertEqual(sorted(words), ["mates", "rivals"])

    def test_point_86_no_odd_ring_among_rivals(self):
        self.assertIsNone(odd_ring(Family.sized(5, 2, 2)))
        self.assert_same(len(odd_ring(Family.of(3, (), (0, 1), (0, 2), (1, 2)))), 2)


class ErrorsTest(Case):
    def test_lots(self):
        family = Family.of(3, (0,), (1,))
        for lot, place in ((None, -1), ("01", -1), ((0, 3), 1), ((1, 1), 1), ([True], 0)):
            self.assert_error(BadLot(place), wrong_bond, family, lot)
            self.assert_error(BadLot(place), is_right, family, lot)

    def test_point_1_answers_are_new(self):
        family = Family.of(3, (0,), (1,))
        self.assert_new(right_sides, family)
        self.assert_new(odd_ring, Family.of(3, (), (0, 1), (0, 2), (1, 2)))

    def test_bonds_of_each_sort_alone(self):
        for one, other in itertools.product(range(3), repeat=2):
            if one < other:
                rivals = Family.of(3, (one,), (other,))
                mates = rivals ^ (one,)
                self.assert_same(wrong_bond(rivals, (one,)), (one, other, "rivals"))
                self.assert_same(wrong_bond(mates, ()), (one, other, "mates"))
                self.assertIsNone(wrong_bond(mates, (one,)))
