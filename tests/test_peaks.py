from tests.helpers import (
    Case, chosen_families, every_family, every_lot, gated_sample, plus, true_depth, true_nearest,
)
from turnlots.breaks import find_break
from turnlots.errors import BadLot, NotGated, NotInside
from turnlots.families import Family
from turnlots.peaks import is_peak, peak_above, peak_lots, peaks

BROKEN = Family.of(3, (), (0, 1, 2))


def true_raising(family, lot):
    depth = true_depth(family, lot)
    return [x for x in range(family.size) if true_depth(family, plus(lot, (x,))) > depth]


def true_bases(family, lot):
    return [plus(near, lot) for near in true_nearest(family, lot)]


class PeaksTest(Case):
    def test_point_23_peaks(self):
        for family in gated_sample():
            found = []
            for lot in every_lot(family.size):
                is_one = true_raising(family, lot) == []
                self.assert_same(is_peak(family, list(lot)), is_one)
                found += [lot] if is_one else []
            self.assert_same(peaks(family), found)

    def test_point_23_the_way_up(self):
        for family in gated_sample():
            for lot in every_lot(family.size)[::2]:
                way = []
                here = lot
                while true_raising(family, here):
                    thing = true_raising(family, here)[0]
                    self.assertNotIn(thing, way)
                    way.append(thing)
                    here = plus(here, (thing,))
                self.assert_same(peak_above(family, lot[::-1]), here)

    def test_point_23_every_way_up_ends_at_a_peak_that_tells_the_bases(self):
        for family in list(gated_sample())[::3]:
            for lot in every_lot(family.size)[::3]:
                self.climb(family, lot, lot, ())

    def climb(self, family, start, lot, way):
        rising = true_raising(family, lot)
        for thing in rising[:1] + rising[1:][-1:]:
            self.assertNotIn(thing, way)
            self.climb(family, start, plus(lot, (thing,)), way + (thing,))
        if not rising:
            apart = set(plus(lot, start))
            told = [tuple(sorted(set(base) - apart)) for base in true_bases(family, lot) if apart <= set(base)]
            self.assertEqual(sorted(told), sorted(true_bases(family, start)))

    def test_point_23_the_lots_at_the_peaks(self):
        for family in gated_sample():
            lots = []
            for peak in peaks(family):
                found = peak_lots(family, list(peak))
                self.assert_same(found, sorted(plus(peak, base) for base in true_bases(family, peak)))
                lots += found
            self.assertEqual(sorted(set(lots)), list(family.lots))

    def test_edges(self):
        self.assert_same(peaks(Family.everything(10)), every_lot(10))
        self.assert_same(peaks(Family.of(1, ())), [(0,)])
        lone = Family.of(10, ())
        every = tuple(range(10))
        self.assert_same([peaks(lone), peak_above(lone, (3,)), peak_lots(lone, every)], [[every], every, [()]])

    def test_errors_and_their_order(self):
        for function in (is_peak, peak_above, peak_lots):
            self.assert_error(BadLot(-1), function, BROKEN, None)
            self.assert_error(BadLot(1), function, BROKEN, (0, 3))
        for function in (is_peak, peak_above):
            self.assert_error(NotGated((), (0, 1, 2), 0), function, BROKEN, ())
        self.assert_error(NotGated((), (0, 1, 2), 0), peaks, BROKEN)
        self.assert_error(NotInside((1, 2)), peak_lots, Family.of(4, (2, 3)), [2, 1])

    def test_a_lot_that_is_no_peak_goes_before_not_gated(self):
        self.assert_error(NotInside(()), peak_lots, BROKEN, ())
        self.assert_error(NotGated((), (0, 1, 2), 0), peak_lots, BROKEN, (0,))
        for family in [*every_family(3, 5), *chosen_families((4,), 3)]:
            if find_break(family):
                for lot in every_lot(family.size):
                    error = NotGated(*find_break(family))
                    if true_raising(family, lot):
                        error = NotInside(lot)
                    self.assert_error(error, peak_lots, family, lot[::-1])

    def test_point_1_answers_are_new(self):
        family = Family.sized(3, 1, 1)
        self.assert_new(peaks, family)
        self.assert_new(peak_lots, family, ())
