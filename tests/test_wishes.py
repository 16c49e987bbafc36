import itertools

from tests.helpers import Case, every_lot
from turnlots.errors import BadLot, BadNumber, BadThing, BadWish, OtherSize
from turnlots.wishes import Wish, wish_of, worth

HUGE = 10 ** 30
SOME = [(0,), (3, -1, 2), (HUGE, -HUGE, 0, 10 ** 28), (0, 0), (-5,), (1, 2, 3, 4, 5, 6, 7, 8, 9, 10)]


class WishTest(Case):
    def test_point_61_a_wish_has_its_numbers(self):
        for numbers in SOME:
            wish = Wish(*numbers)
            self.assert_same(wish.numbers, numbers)
            self.assert_same(len(wish), len(numbers))
            self.assert_same(list(wish), list(numbers))
            self.assert_same([wish[thing] for thing in range(len(numbers))], list(numbers))
            self.assert_same(wish.greatest, max(abs(number) for number in numbers))

    def test_point_61_numbers_that_make_no_wish(self):
        self.assert_error(BadWish(-2), Wish)
        for numbers, place in (
            ((True,), 0), ((1, None), 1), ((1, 2, "3"), 2), (([1, 2],), 0), ((0, 1.0, None), 1),
        ):
            self.assert_error(BadWish(place), Wish, *numbers)

    def test_sums_differences_and_signs(self):
        for one, other in itertools.product(SOME, SOME):
            wish, more = Wish(*one), Wish(*other)
            if len(one) == len(other):
                self.assert_same((wish + more).numbers, tuple(a + b for a, b in zip(one, other)))
                self.assert_same((wish - more).numbers, tuple(a - b for a, b in zip(one, other)))
            else:
                self.assert_error(OtherSize(len(other)), lambda: wish + more)
                self.assert_error(OtherSize(len(other)), lambda: wish - more)
            self.assert_same((-wish).numbers, tuple(-a for a in one))
            self.assert_same((wish.numbers, more.numbers), (one, other))

    def test_what_is_equal(self):
        for one, other in itertools.product(SOME, SOME):
            self.assert_same(Wish(*one) == Wish(*other), one == other)
            self.assert_same(Wish(*one) != Wish(*other), one != other)
        self.assert_same(Wish(1, 2) == (1, 2), False)
        self.assert_same(Wish(1, 2) == [1, 2], False)
        self.assert_same(Wish(0) == 0, False)

    def test_things_of_a_wish(self):
        wish = Wish(3, -1, 2)
        for thing in (-1, 3, True, None, "0", 0.0, slice(0, 2)):
            self.assert_error(BadThing(thing), lambda: wish[thing])
            self.assert_error(BadThing(thing), wish.put, thing, None)

    def test_worth_of(self):
        for numbers in ((3, -1, 2), (0, 0), (HUGE, -HUGE, 0, 10 ** 28), (-7,)):
            for lot in every_lot(len(numbers)):
                expected = sum(numbers[x] for x in lot)
                self.assert_same(Wish(*numbers).worth_of(list(lot)[::-1]), expected)
                self.assert_same(worth(numbers, lot, len(numbers)), expected)
                self.assert_same(worth(Wish(*numbers), lot, len(numbers)), expected)
        self.assert_same(Wish(1, 2).worth_of(()), 0)
        self.assert_same(Wish(*range(14)).worth_of((13, 12)), 25)
        for lot, place in ((None, -1), ((0, 2), 1), ((1, 1), 1), ((True,), 0)):
            self.assert_error(BadLot(place), Wish(1, 2).worth_of, lot)

    def test_times(self):
        for number in (0, 1, -3, HUGE):
            self.assert_same(Wish(3, -1, 0).times(number).numbers, (3 * number, -number, 0))
        for number in (None, True, "2", 2.0, [2]):
            self.assert_error(BadNumber("number"), Wish(3, -1).times, number)

    def test_put(self):
        wish = Wish(3, -1, 2)
        self.assert_same(wish.put(1, HUGE).numbers, (3, HUGE, 2))
        self.assert_same(wish.put(0, 3).numbers, (3, -1, 2))
        self.assert_same(wish.numbers, (3, -1, 2))
        for number in (None, True, "2", 2.0):
            self.assert_error(BadNumber("number"), wish.put, 2, number)

    def test_turned(self):
        for lot in every_lot(3):
            expected = tuple(-x if thing in lot else x for thing, x in enumerate((3, -1, 0)))
            self.assert_same(Wish(3, -1, 0).turned(list(lot)[::-1]).numbers, expected)
        for lot, place in ((None, -1), ((3,), 0), ((0, 0), 1)):
            self.assert_error(BadLot(place), Wish(3, -1, 0).turned, lot)

    def test_what_is_returned_is_a_wish(self):
        wish = Wish(3, -1)
        for found in (wish + wish, wish - wish, -wish, wish.times(2), wish.put(0, 1), wish.turned(())):
            self.assertIs(type(found), Wish)
            self.assertIsNot(found, wish)


class NamedTest(Case):
    def test_numbers_by_name(self):
        self.assert_same(Wish.named(3, a1=4).numbers, (0, 4, 0))
        self.assert_same(Wish.named(1).numbers, (0,))
        self.assert_same(Wish.named(10, a9=-HUGE, a0=1).numbers, (1,) + (0,) * 8 + (-HUGE,))
        self.assertIs(type(Wish.named(2)), Wish)

    def test_errors_and_their_order(self):
        for size in (0, 11, -1, True, None, "3", 3.0):
            self.assert_error(BadNumber("size"), lambda: Wish.named(size, b=None))
        for names in ({"a3": 1}, {"b0": 1}, {"a": 1}, {"a01": 1}, {"A0": 1}, {"a_0": 1}, {"a0": None, "x": 1}):
            self.assert_error(BadWish(-1), lambda: Wish.named(3, **names))
        for names, thing in (({"a2": None, "a1": True}, 1), ({"a2": "1", "a0": 5}, 2), ({"a0": 1.0}, 0)):
            self.assert_error(BadWish(thing), lambda: Wish.named(3, **names))


class WishOfTest(Case):
    def test_point_61_a_wish_a_tuple_or_a_list(self):
        for numbers in SOME:
            for wish in (numbers, list(numbers), Wish(*numbers)):
                found = wish_of(wish, len(numbers))
                self.assertIs(type(found), Wish)
                self.assert_same(found.numbers, numbers)

    def test_point_1_later_changes_have_no_effect(self):
        numbers = [1, 2]
        wish = wish_of(numbers, 2)
        numbers[0] = 7
        self.assert_same(wish.numbers, (1, 2))

    def test_point_61_errors_and_their_order(self):
        for size in (0, 11, True, None, "1"):
            self.assert_error(BadNumber("size"), wish_of, None, size)
            self.assert_error(BadNumber("size"), worth, None, None, size)
        for wish, place in (
            (None, -1), ("ab", -1), ({}, -1), (12, -1), ((), -2), ([1], -2), ((1, None, 2), -2),
            (Wish(1), -2), (Wish(1, 2, 3), -2), ((1, None), 1), ((False, None), 0), (([1], 2), 0),
        ):
            self.assert_error(BadWish(place), wish_of, wish, 2)
            self.assert_error(BadWish(place), worth, wish, None, 2)
        for lot, place in ((None, -1), ((2,), 0), ((0, 1, 0), 2)):
            self.assert_error(BadLot(place), worth, (1, 2), lot, 2)
