from tests.helpers import Case
from turnlots.checks import check_number, check_thing, is_int, lot_of, pair_of
from turnlots.errors import BadLot, BadNumber, BadPair, BadThing
from turnlots.met import Pair

NO_LOTS = [
    (None, -1), (3, -1), ("01", -1), ({0, 1}, -1), ({}, -1), (range(2), -1), (b"", -1),
    ((4,), 0), ((-1,), 0), ((0, 4), 1), ((0, 0), 1), ([1, 2, 1], 2), ((0, True), 1), ((False,), 0),
    ((0, "1"), 1), ((1.0,), 0), ((None,), 0), (((0,),), 0), ((3, 2, 1, 0, 0), 4), ((9, 9), 0),
    ((2, 2, 9), 1),
]


class ChecksTest(Case):
    def test_point_1_an_integer_is_no_bool(self):
        for value in (0, -1, 7, 10 ** 30):
            self.assertIs(is_int(value), True)
        for value in (True, False, None, 1.0, "1", (1,), [1], b"1"):
            self.assertIs(is_int(value), False)

    def test_point_2_a_lot_is_given_in_any_order_and_returned_ascending(self):
        self.assert_same(lot_of([3, 0, 2], 4), (0, 2, 3))
        self.assert_same(lot_of((), 4), ())
        self.assert_same(lot_of([], 0), ())
        self.assert_same(lot_of((1, 0), 2), (0, 1))

    def test_lot_of_names_the_first_wrong_entry(self):
        for lot, place in NO_LOTS:
            self.assert_error(BadLot(place), lot_of, lot, 4)
        self.assert_error(BadLot(0), lot_of, (0,), 0)

    def test_point_1_no_argument_is_changed(self):
        lot = [3, 1]
        lot_of(lot, 4)
        self.assertEqual(lot, [3, 1])

    def test_check_thing(self):
        self.assertEqual(check_thing(0, 1), 0)
        self.assertEqual(check_thing(9, 10), 9)
        for thing in (-1, 3, True, False, None, "0", (0,), 0.0):
            self.assert_error(BadThing(thing), check_thing, thing, 3)
        self.assert_error(BadThing(0), check_thing, 0, 0)

    def test_check_number(self):
        self.assertEqual(check_number(-2, "low", -2), -2)
        self.assertEqual(check_number(10 ** 30, "low", 0), 10 ** 30)
        for number in (-3, True, None, "1", 1.5):
            self.assert_error(BadNumber("word"), check_number, number, "word", -2)

    def test_pair_of(self):
        self.assert_same(pair_of([[2, 0], (1,)], 3), ((0, 2), (1,)))
        self.assert_same(pair_of(((), []), 0), ((), ()))

    def test_pair_of_looks_at_the_kind_then_at_the_lots_then_for_a_common_thing(self):
        for pair in (None, (), ((),), ((), (), ()), "ab", {0: (), 1: ()}, 5, Pair((), ())):
            self.assert_error(BadPair(-1), pair_of, pair, 3)
        self.assert_error(BadLot(1), pair_of, ((0, 3), (0, 0, 9)), 3)
        self.assert_error(BadLot(-1), pair_of, ("", 5), 3)
        self.assert_error(BadLot(2), pair_of, ((0, 1), (1, 2, 2)), 3)
        self.assert_error(BadPair(1), pair_of, ([2, 1, 0], (2, 1)), 3)
