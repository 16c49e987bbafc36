from tests.helpers import (
    Case, are_alone, chosen_families, every_family, gap_of, gated_families, small_families, true_box,
)
from tests.test_book import true_best, true_bettering
from turnlots.breaks import is_gated
from turnlots.edges import far_best, stuck, two_best_wish
from turnlots.errors import BadLot, BadNumber, NotInside
from turnlots.families import Family
from turnlots.wishes import Wish


def families():
    yield from small_families()
    yield from every_family(4, 97)
    yield from gated_families(4)[::300]
    yield from chosen_families((5, 6, 10), 3)


class WitnessTest(Case):
    def test_point_66_far_best(self):
        seen = 0
        for family in families():
            found = far_best(family)
            self.assertEqual(found is None, is_gated(family))
            if found is not None:
                wish, one, other = found
                self.assertIs(type(wish), Wish)
                self.assert_same(true_best(family, wish), [one, other])
                self.assertGreater(gap_of(one, other), 2)
                seen += 1
        self.assertGreater(seen, 500)

    def test_point_66_stuck(self):
        seen = 0
        for family in families():
            found = stuck(family)
            self.assertEqual(found is None, is_gated(family))
            if found is not None:
                wish, lot = found
                self.assertIs(type(wish), Wish)
                self.assertIn(lot, family.lots)
                self.assertNotIn(lot, true_best(family, wish))
                self.assertIsNone(true_bettering(family, wish, lot))
                seen += 1
        self.assertGreater(seen, 500)

    def test_two_lots_far_apart_in_a_family_of_size_10(self):
        family = Family.of(10, tuple(range(10)), ())
        self.assert_same(far_best(family)[1:], ((), tuple(range(10))))
        wish, lot = stuck(family)
        self.assertNotEqual(true_best(family, wish), [lot])
        self.assertIsNone(true_bettering(family, wish, lot))


class TwoBestTest(Case):
    def test_point_71_two_lots_alone_best(self):
        for family in [*small_families(), *every_family(4, 1301), *chosen_families((5,), 2)]:
            for one in family.lots[:9]:
                for other in family.lots[-9:]:
                    self.check_two(family, one, other)

    def check_two(self, family, one, other):
        gap = gap_of(one, other)
        if gap == 0 or gap > 2 and not are_alone(family, one, other):
            self.assert_error(BadNumber("gap"), two_best_wish, family, one, other)
        elif gap == 2 and len(true_box(family, one, other)) == 4:
            self.assertIsNone(two_best_wish(family, one, other))
        else:
            wish = two_best_wish(family, list(one)[::-1], other)
            self.assertIs(type(wish), Wish)
            self.assert_same(true_best(family, wish), sorted([one, other]))

    def test_point_71_each_case(self):
        everything = Family.everything(3)
        self.assertEqual(true_best(everything, two_best_wish(everything, (0, 1), (1,))), [(0, 1), (1,)])
        self.assertIsNone(two_best_wish(everything, (0,), (1,)))
        self.assert_error(BadNumber("gap"), two_best_wish, everything, (), (2, 1, 0))
        self.assert_error(BadNumber("gap"), two_best_wish, everything, (1, 0), (0, 1))
        three = Family.of(2, (), (0, 1), (1,))
        self.assertEqual(true_best(three, two_best_wish(three, (0, 1), ())), [(), (0, 1)])
        ten = Family.of(10, tuple(range(10)), (), (0, 1))
        self.assert_error(BadNumber("gap"), two_best_wish, ten, tuple(range(10)), ())
        self.assertEqual(true_best(ten, two_best_wish(ten, tuple(range(10)), (0, 1)))[1], tuple(range(10)))

    def test_errors_and_their_order(self):
        family = Family.of(3, (), (0,), (0, 1, 2))
        for one, other, error in (
            (None, None, BadLot(-1)), ((0, 3), None, BadLot(1)), ((1,), None, BadLot(-1)),
            ((1,), (2, 2), BadLot(1)), ([2, 1], (1,), NotInside((1, 2))), ((), [2, 1], NotInside((1, 2))),
            ((1,), (1,), NotInside((1,))), ((0,), (0,), BadNumber("gap")), ((), (2, 1, 0), BadNumber("gap")),
        ):
            self.assert_error(error, two_best_wish, family, one, other)
