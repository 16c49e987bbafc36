from tests.helpers import (
    Case, chosen_families, every_lot, gated_sample, plus, small_families, true_depth, true_nearest,
)
from tests.test_bonds import true_marks
from turnlots.bases import At
from turnlots.breaks import find_break, is_gated
from turnlots.errors import NotGated
from turnlots.families import Family
from turnlots.listings import line_of, listing, table_text
from turnlots.partings import finest


def text_of(lot):
    return ",".join(str(x) for x in lot) if lot else "-"


def count_of(number, word):
    return f"{number} {word}" + "s" * (number != 1)


def true_head(family):
    even = len({len(lot) % 2 for lot in family}) == 1
    return ", ".join((
        count_of(family.size, "thing"), count_of(len(family), "lot"), "even" if even else "mixed",
        "gated" if is_gated(family) else "not gated", count_of(len(finest(family)), "part"),
    ))


class ListingTest(Case):
    def test_point_147_heads(self):
        for family in [*small_families(), *chosen_families((4, 5))]:
            self.assert_same(line_of(family), true_head(family))

    def test_point_147_heads_sign_by_sign(self):
        for family, line in (
            (Family.of(1, ()), "1 thing, 1 lot, even, gated, 1 part"),
            (Family.everything(1), "1 thing, 2 lots, mixed, gated, 1 part"),
            (Family.of(2, (0,)), "2 things, 1 lot, even, gated, 2 parts"),
            (Family.of(3, (), (0, 1, 2)), "3 things, 2 lots, mixed, not gated, 1 part"),
            (Family.of(4, (), (0, 1, 2, 3)), "4 things, 2 lots, even, not gated, 1 part"),
            (Family.everything(10), "10 things, 1024 lots, mixed, gated, 10 parts"),
        ):
            self.assert_same(line_of(family), line)

    def test_point_147_listings(self):
        words = {(True, False): "rivals", (False, True): "mates", (True, True): "rivals and mates"}
        seen = set()
        for family in [*small_families(), *chosen_families((4, 5))]:
            marks = true_marks(family)
            lines = [f"{x}-{y} {words[(rivals, mates)]}" for x, y, rivals, mates in marks]
            self.assert_same(listing(family), [true_head(family), *[text_of(lot) for lot in family], *lines])
            seen |= {mark[2:] for mark in marks}
        self.assertEqual(len(seen), 3)

    def test_point_147_listings_sign_by_sign(self):
        self.assert_same(listing(Family.of(3, (), (0, 1), (0, 2), (1, 2))), [
            "3 things, 4 lots, even, gated, 1 part", "-", "0,1", "0,2", "1,2",
            "0-1 rivals and mates", "0-2 rivals and mates", "1-2 rivals and mates",
        ])
        self.assert_same(listing(Family.of(2, (0,), (1,))), ["2 things, 2 lots, even, gated, 1 part", "0", "1", "0-1 rivals"])
        ten = listing(Family.of(10, tuple(range(10))))
        self.assert_same(ten, ["10 things, 1 lot, even, gated, 10 parts", "0,1,2,3,4,5,6,7,8,9"])

    def test_point_1_answers_are_new(self):
        self.assert_new(listing, Family.of(2, (0,), (1,)))
        self.assert_new(table_text, Family.of(2, (0,), (1,)))


class TableTest(Case):
    def test_point_148_table_lines(self):
        for family in gated_sample():
            lines = []
            for lot in every_lot(family.size):
                bases = [plus(lot, near) for near in true_nearest(family, lot)]
                loops = [x for x in range(family.size) if not any(x in base for base in bases)]
                text, depth, many = text_of(lot), str(true_depth(family, lot)), str(len(bases))
                line = text + " " * (19 - len(text)) + " " * (3 - len(depth)) + depth
                lines.append(line + " " * (5 - len(many)) + many + " " + text_of(loops))
                self.assertEqual((len(bases), tuple(loops)), (len(At(family, lot)), At(family, lot).loops()))
            self.assert_same(table_text(family), lines)

    def test_point_148_table_lines_sign_by_sign(self):
        self.assert_same(table_text(Family.of(1, (0,))), ["-                    1    1 -", "0                    0    1 0"])
        self.assert_same(table_text(Family.of(2, (0,), (1,))), [
            "-                    1    2 -", "0                    0    1 0,1", "0,1                  1    2 -",
            "1                    0    1 0,1",
        ])
        ten = table_text(Family.sized(10, 5, 5))
        self.assert_same((len(ten), ten[0]), (1024, "-                    5  252 -"))
        self.assertIn("0,1,2,3,4,5,6,7,8,9  5  252 -", ten)
        self.assertIn("0,1,2,3,4            0    1 0,1,2,3,4,5,6,7,8,9", ten)

    def test_families_that_are_not_gated(self):
        for family in [*small_families(), *chosen_families((4, 5))]:
            if not is_gated(family):
                self.assert_error(NotGated(*find_break(family)), table_text, family)
