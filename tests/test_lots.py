from tests.helpers import Case, every_lot, gap_of, plus
from turnlots.errors import BadLot, BadNumber
from turnlots.lots import all_lots, apart, both, box_lots, either, exchanged, gap, is_between, less

WITH_TWO = [apart, both, less, either, exchanged, gap, box_lots]


class LotsTest(Case):
    def test_point_2_the_lots_of_a_size_are_in_order(self):
        self.assert_same(all_lots(0), [()])
        self.assert_same(all_lots(2), [(), (0,), (0, 1), (1,)])
        for size in range(11):
            lots = all_lots(size)
            self.assertEqual(lots, every_lot(size))
            self.assertEqual(len(lots), 2 ** size)
            self.assertEqual(lots[0], ())

    def test_point_2_sums_and_exchanges(self):
        self.assert_same(apart([3, 1], (0, 1), 4), (0, 3))
        self.assert_same(both([3, 1], (0, 1), 4), (1,))
        self.assert_same(less([3, 1, 2], (0, 1), 4), (2, 3))
        self.assert_same(either([3, 1], (1, 0), 4), (0, 1, 3))
        self.assert_same(exchanged([3, 1], [1, 0], 4), (0, 3))
        self.assert_same(gap([3, 1], (0, 1), 4), 2)

    def test_point_2_on_all_lots_of_small_sizes(self):
        for size in range(4):
            for one in every_lot(size):
                for other in every_lot(size):
                    self.assert_same(apart(one, other, size), plus(one, other))
                    self.assert_same(exchanged(one, other, size), plus(one, other))
                    self.assert_same(both(one, other, size), tuple(sorted(set(one) & set(other))))
                    self.assert_same(either(one, other, size), tuple(sorted(set(one) | set(other))))
                    self.assert_same(less(one, other, size), tuple(sorted(set(one) - set(other))))
                    self.assert_same(gap(one, other, size), gap_of(one, other))

    def test_point_4_between_by_sets_and_by_gaps(self):
        size = 4
        for one in every_lot(size):
            for other in every_lot(size):
                box = box_lots(one, other, size)
                self.assertEqual(len(box), 2 ** gap_of(one, other))
                for lot in every_lot(size):
                    by_sets = set(plus(lot, one)) <= set(plus(other, one))
                    by_gaps = gap_of(one, lot) + gap_of(lot, other) == gap_of(one, other)
                    self.assertEqual(by_sets, by_gaps)
                    self.assertIs(is_between(lot, one, other, size), by_sets)
                    self.assertIs(is_between(lot, other, one, size), by_sets)
                    self.assertEqual(lot in box, by_sets)
                self.assertEqual(box, sorted(box))

    def test_the_edges_of_the_sizes(self):
        self.assert_same(box_lots((), (), 0), [()])
        self.assert_same(is_between((), (), (), 0), True)
        self.assert_same(gap((), range_lot(10), 10), 10)
        self.assertEqual(len(box_lots((), range_lot(10), 10)), 1024)

    def test_point_13_the_size_comes_first_then_the_first_wrong_lot(self):
        for size in (-1, 11, True, None, "3", 2.0):
            self.assert_error(BadNumber("size"), all_lots, size)
            self.assert_error(BadNumber("size"), is_between, None, None, None, size)
            for function in WITH_TWO:
                self.assert_error(BadNumber("size"), function, None, 5, size)
        for function in WITH_TWO:
            self.assert_error(BadLot(-1), function, None, (0, 0), 3)
            self.assert_error(BadLot(1), function, (0, 3), (0, 0, 0), 3)
            self.assert_error(BadLot(2), function, (0, 2), (2, 1, 1), 3)
            self.assert_error(BadLot(0), function, (), (0,), 0)
        self.assert_error(BadLot(1), is_between, (0, 0), (5,), None, 3)
        self.assert_error(BadLot(0), is_between, (0,), (5,), None, 3)
        self.assert_error(BadLot(-1), is_between, (0,), (1,), None, 3)

    def test_point_1_answers_are_new_and_arguments_stay(self):
        self.assert_new(all_lots, 3)
        self.assert_new(box_lots, (0,), (1, 2), 3)
        one, other = [2, 0], [1]
        for function in WITH_TWO:
            function(one, other, 3)
        is_between(one, other, one, 3)
        self.assertEqual([one, other], [[2, 0], [1]])


def range_lot(size):
    return tuple(range(size))
