import itertools

from tests.helpers import Case, every_family, every_lot, gated_families, gated_row, plus, true_nearest
from turnlots.breaks import find_break, is_gated
from turnlots.errors import BadEdge, BadNumber, BadTable, NotGated
from turnlots.families import Family
from turnlots.labels import family_of_labels, labels_of


def true_labels(family):
    return [
        sorted(plus(lot, near) for near in true_nearest(family, lot))
        for lot in every_lot(family.size)
    ]


def is_matroid(row):
    """One or more different lots of one size, with the exchange of point 16."""
    return len(set(row)) == len(row) > 0 and len({len(lot) for lot in row}) == 1 and all(
        any(tuple(sorted({*one, y} - {x})) in row for y in set(two) - set(one))
        for one in row for two in row for x in set(one) - set(two)
    )


def true_edges(size, rows):
    """All tuples (lot, thing) whose edge is not as in point 20, ascending."""
    label = dict(zip(every_lot(size), [sorted(row) for row in rows]))
    wrong = []
    for lot in every_lot(size):
        for x in set(range(size)) - set(lot):
            here, there = label[lot], label[plus(lot, (x,))]
            down = is_down(here, there, x)
            up = is_down(there, here, x)
            same = here == there and not any(x in base for base in here)
            if [down, up, same].count(True) != 1:
                wrong.append((lot, x))
    return sorted(wrong)


def is_down(here, there, x):
    left = sorted(plus(base, (x,)) for base in here if x in base)
    return left != [] and left == there and not any(x in base for base in there)


class LabelsTest(Case):
    def test_point_22_labels_are_the_bases(self):
        for family in [*gated_families(1), *gated_families(2), *gated_families(3), *gated_row(5)]:
            self.assert_same(labels_of(family), true_labels(family))

    def test_point_22_the_family_is_made_of_the_lots_with_the_empty_base_alone(self):
        for family in gated_families(4)[::90]:
            rows = labels_of(family)
            inside = [lot for lot, row in zip(every_lot(4), rows) if row == [()]]
            self.assertEqual(list(family.lots), inside)

    def test_point_22_there_and_back(self):
        for size in (1, 2, 3, 4):
            for family in gated_families(size):
                self.assertEqual(family_of_labels(size, labels_of(family)), family)
        for size in (5, 6):
            for family in gated_row(size):
                rows = tuple(tuple(list(base)[::-1] for base in row[::-1]) for row in labels_of(family))
                self.assertEqual(family_of_labels(size, rows), family)
        even = Family(10, [lot for lot in every_lot(10) if len(lot) % 2 == 0])
        self.assertEqual(family_of_labels(10, labels_of(even)), even)

    def test_point_22_all_tables_of_size_1_and_2(self):
        found = [[], []]
        for size in (1, 2):
            lots = every_lot(size)
            rows = [
                [lot for place, lot in enumerate(lots) if number >> place & 1]
                for number in range(1, 1 << len(lots))
            ]
            matroids = [row for row in rows if is_matroid(row)]
            for table in itertools.product(matroids, repeat=len(lots)):
                self.check_table(size, table, found[size - 1])
            families = list(every_family(size))
            self.assertEqual(len(found[size - 1]), len(families))
            self.assertTrue(all(family in families for family in found[size - 1]))

    def check_table(self, size, table, found):
        wrong = true_edges(size, table)
        if wrong:
            self.assert_error(BadEdge(*wrong[0]), family_of_labels, size, table)
        else:
            family = family_of_labels(size, table)
            self.assertTrue(is_gated(family))
            self.assert_same(labels_of(family), list(table))
            self.assertNotIn(family, found)
            found.append(family)

    def test_one_row_changed_tells_the_first_wrong_edge(self):
        rows = [[()], [(0,)], [(0,), (1,), (2,)], [(0, 1), (0, 2)], [(0, 1, 2)], [(1, 2)], [(2,)]]
        for family in gated_families(3)[::12]:
            right = labels_of(family)
            for place, row in itertools.product(range(8), rows):
                self.check_table(3, right[:place] + [row] + right[place + 1:], [])

    def test_errors_and_their_order(self):
        for size in (0, 11, -1, True, None, "1"):
            self.assert_error(BadNumber("size"), family_of_labels, size, None)
        for rows in (None, "ab", {0: [()], 1: [()]}, 3):
            self.assert_error(BadTable(-1), family_of_labels, 1, rows)
        for rows in ([], [[()]], [[()], [()], None]):
            self.assert_error(BadTable(-2), family_of_labels, 1, rows)

    def test_rows_that_are_no_bases_of_a_matroid(self):
        good = [[()]] * 8
        for row in (
            None, (), [], "", 3, {(): True}, [None], [(3,)], [(0, 0)], [(True,)], [(0,), "1"],
            [(0,), (0,)], [(0, 1), (1, 0)], [(), (0,)], [(0, 1), (2,)],
        ):
            for place in (0, 5, 7):
                table = good[:place] + [row] + [None] * (7 - place)
                self.assert_error(BadTable(place), family_of_labels, 3, table)
        apart = [[()]] * 4 + [[(0, 1), (2, 3)]] + [[(0,)]] * 11
        self.assert_error(BadTable(4), family_of_labels, 4, apart)
        self.assert_error(BadEdge((), 0), family_of_labels, 1, ([(0,)], ([0],)))

    def test_a_wrong_row_goes_before_a_wrong_edge(self):
        self.assert_error(BadTable(3), family_of_labels, 2, [[(0,)], [(0,)], [(0,)], [(0,), ()]])
        self.assert_error(BadEdge((), 1), family_of_labels, 2, [[()], [()], [(0,)], [(0,)]])

    def test_labels_of_raises_the_first_break(self):
        for family in every_family(3, 11):
            if find_break(family):
                self.assert_error(NotGated(*find_break(family)), labels_of, family)

    def test_point_1_answers_are_new_and_arguments_stay(self):
        family = Family.of(2, (), (0, 1))
        self.assert_new(labels_of, family)
        rows = labels_of(family)
        kept = repr(rows)
        family_of_labels(2, rows)
        self.assertEqual(repr(rows), kept)
