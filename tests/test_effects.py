import itertools

from tests.helpers import (
    Case, every_family, every_lot, gated_families, gated_sample,
)
from tests.test_bonds import true_bonds, true_marks
from tests.test_book import some_wishes
from tests.test_critical import true_critical
from tests.test_sides import true_wrong
from tests.test_stretches import some_rows
from turnlots.bonds import showing_wish
from turnlots.breaks import find_break, is_gated
from turnlots.effects import crossing, moves, trail, worlds_tell, wrong_world
from turnlots.errors import BadLot, BadNumber, BadThing, BadWish, NotGated
from turnlots.families import Family
from turnlots.four import crossed
from turnlots.stretches import Stretches, ends, side_ends
from turnlots.wishes import Wish

BROKEN = Family.of(3, (), (0, 1, 2))


def sorts(family, x, y):
    return {word for _, word in true_bonds(family, x, y)}


def sampled():
    yield from gated_families(2)
    yield from gated_families(3)[::2]
    yield from gated_families(4)[::300]


class MovesTest(Case):
    def test_point_87_moves_by_the_bonds(self):
        words = {(): "none", ("rivals",): "up", ("mates",): "down", ("mates", "rivals"): "both"}
        seen = set()
        for family in gated_sample():
            for x, y in itertools.permutations(range(family.size), 2):
                word = words[tuple(sorted(sorts(family, x, y)))]
                self.assert_same(moves(family, x, y), word)
                seen.add(word)
        self.assertEqual(len(seen), 4)

    def test_point_87_moves_as_single_wishes_give_them(self):
        for family in sampled():
            for x, y in itertools.permutations(range(family.size), 2):
                if x in family.loose():
                    steps = self.steps(family, x, y)
                    word = moves(family, x, y)
                    self.assertEqual(1 in steps, word in ("up", "both"))
                    self.assertEqual(-1 in steps, word in ("down", "both"))

    def steps(self, family, x, y):
        """How the critical wish of x moves as the number of y rises, by wishes that show the bonds."""
        found = set()
        rest = [z for z in range(family.size) if z not in (x, y)]
        for values in itertools.product((-3, 3), repeat=len(rest)):
            wish = dict(zip(rest, values))
            numbers = [wish.get(z, 0) for z in range(family.size)]
            path = trail(family, numbers, x, y, range_list(-4, 4))
            found |= {b - a for a, b in zip(path, path[1:])}
        return found

    def test_fixed_things_move_nothing(self):
        family = Family.of(3, (0,), (1,))
        self.assert_same([moves(family, *pair) for pair in ((0, 1), (1, 0), (0, 2), (2, 1))],
                         ["up", "up", "none", "none"])
        self.assert_same(moves(family ^ (1,), 0, 1), "down")


def range_list(low, high):
    return list(range(low, high + 1))


class CrossingTest(Case):
    def test_point_87_crossing_by_the_bonds(self):
        words = {"up": "less", "down": "more", "both": "both", "none": "equal"}
        for family in gated_sample():
            for x, y in itertools.permutations(range(family.size), 2):
                if x in family.loose() and y in family.loose():
                    self.assert_same(crossing(family, x, y), words[moves(family, x, y)])
                else:
                    self.assertIsNone(crossing(family, x, y))

    def test_point_87_crossing_as_single_wishes_give_it(self):
        for family in sampled():
            for x, y in itertools.combinations(family.loose(), 2):
                found = {crossed(family, wish, x, y) for wish in self.wishes(family.size)} - {"equal"}
                expected = {"less": {"less"}, "more": {"more"}, "both": {"less", "more"}, "equal": set()}
                self.assertEqual(found, expected[crossing(family, x, y)])

    def wishes(self, size):
        return itertools.product((-2, -1, 1, 2) if size > 3 else (-3, -1, 0, 1, 3), repeat=size)

    def test_point_87_showing_wishes_in_every_family(self):
        for family in [*every_family(3), *every_family(4, 1601)]:
            for x, y in itertools.combinations(range(family.size), 2):
                for lot, sort in true_bonds(family, x, y):
                    found = crossed(family, showing_wish(family, lot, x, y), x, y)
                    self.assertEqual(found, "less" if sort == "rivals" else "more")


class TrailTest(Case):
    def test_point_87_trail(self):
        numbers = [-10 ** 28, -3, 0, 2, 10 ** 28, 2]
        for family in sampled():
            for wish in some_wishes(family.size, 1):
                for x, y in itertools.permutations(range(family.size), 2):
                    expected = [true_critical(family, Wish(*wish).put(y, number), x) for number in numbers]
                    self.assert_same(trail(family, Wish(*wish), x, y, tuple(numbers)), expected)
                    self.assert_same(trail(family, list(wish), x, y, []), [])

    def test_fixed_things(self):
        family = Family.of(3, (0,), (1,))
        self.assert_same(trail(family, (1, 2, 3), 2, 0, [5, 6]), [None, None])
        self.assert_same(trail(family, (1, 2, 3), 0, 2, [5, 6]), [2, 2])


class WorldsTest(Case):
    def test_point_88_worlds_tell_for_right_lots(self):
        for family in [*gated_families(2), *gated_families(3), *gated_families(4)[::150]]:
            marks = true_marks(family)
            for lot in every_lot(family.size):
                right = true_wrong(marks, lot) is None
                self.assert_same(worlds_tell(family, list(lot)[::-1]), right)
                if right:
                    for rows in some_rows(family.size, 1):
                        for x in family.loose():
                            self.assertEqual(side_ends(family, rows, x, lot), ends(family, rows, x))

    def test_point_88_wrong_worlds(self):
        seen = 0
        for family in gated_sample():
            for lot in every_lot(family.size)[::2]:
                found = wrong_world(family, list(lot)[::-1])
                self.assertEqual(found is None, worlds_tell(family, lot))
                if found is not None:
                    self.assertIsInstance(found, tuple)
                    stretches, x = found
                    self.assertIs(type(stretches), Stretches)
                    self.assertEqual((len(stretches), len(stretches.unseen())), (family.size, 1))
                    self.assertIn(x, family.loose())
                    self.assertNotEqual(ends(family, stretches, x), side_ends(family, stretches, x, lot))
                    seen += 1
        self.assertGreater(seen, 500)

    def test_sizes_1_and_10(self):
        self.assert_same(worlds_tell(Family.everything(1), (0,)), True)
        self.assertIsNone(wrong_world(Family.everything(1), ()))
        ten = Family.sized(10, 5, 5)
        self.assertIsNone(wrong_world(ten, ()))
        stretches, x = wrong_world(ten, (4,))
        self.assertNotEqual(ends(ten, stretches, x), side_ends(ten, stretches, x, (4,)))


class ErrorsTest(Case):
    def test_two_things(self):
        broken = NotGated(*find_break(BROKEN))
        for call in (moves, crossing):
            for thing in (-1, 3, True, None, "0"):
                self.assert_error(BadThing(thing), call, BROKEN, thing, None)
                self.assert_error(BadThing(thing), call, BROKEN, 0, thing)
            self.assert_error(BadThing(1), call, BROKEN, 1, 1)
            self.assert_error(broken, call, BROKEN, 0, 1)
        # not gated comes before the None of a fixed thing
        fixed = BROKEN * Family.of(1, ())
        self.assertFalse(is_gated(fixed))
        self.assert_error(NotGated(*find_break(fixed)), crossing, fixed, 3, 0)

    def test_trail(self):
        broken = NotGated(*find_break(BROKEN))
        wish = (1, 2, 3)
        for args, error in (
            ((None, 9, 9, None), BadWish(-1)), (((1, 2), 9, 9, None), BadWish(-2)),
            (((1, 2, None), 9, 9, None), BadWish(2)), ((wish, 3, None, None), BadThing(3)),
            ((wish, 0, -1, None), BadThing(-1)), ((wish, 2, 2, None), BadThing(2)),
            ((wish, 0, 1, None), BadNumber("numbers")), ((wish, 0, 1, "12"), BadNumber("numbers")),
            ((wish, 0, 1, [1, True]), BadNumber("numbers")), ((wish, 0, 1, (1, 2.0)), BadNumber("numbers")),
            ((wish, 0, 1, []), broken), ((wish, 0, 1, [1]), broken),
        ):
            self.assert_error(error, trail, BROKEN, *args)

    def test_lots(self):
        for call in (worlds_tell, wrong_world):
            for lot, place in ((None, -1), ((0, 3), 1), ((1, 1), 1)):
                self.assert_error(BadLot(place), call, BROKEN, lot)
            self.assert_error(NotGated(*find_break(BROKEN)), call, BROKEN, (0,))
