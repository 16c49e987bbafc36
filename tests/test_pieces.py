from tests.helpers import Case, chosen_families, every_lot, plus
from tests.test_cuts import all_glued
from tests.test_glue import needed_error
from tests.whole import cut_lots, larger_whole, not_whole_ones, whole_families, whole_of
from turnlots.cuts import strong_lots
from turnlots.errors import BadNumber, BadTable, NotAPiece, NotGated
from turnlots.families import Family
from turnlots.pieces import Firm, OneAway, Parity, Piece, piece_of

SORTS = (Parity, OneAway, Firm)


def parity_family(size, parity):
    return Family(size, [lot for lot in every_lot(size) if len(lot) % 2 == parity])


def one_away(size, centre):
    return Family(size, [plus(centre, (x,)) for x in range(size)])


def true_sort(family):
    """The sort of a whole even gated family of three things or more, None if it has none: point 126."""
    lots = list(family)
    if family in [parity_family(family.size, 0), parity_family(family.size, 1)]:
        return Parity
    if any(lots == list(one_away(family.size, lot)) for lot in every_lot(family.size)):
        return OneAway
    return Firm if family.size >= 4 and all_glued(family) == [] else None


def sort_words(piece):
    return {Parity: "parity", OneAway: "one-away", Firm: "firm"}[type(piece)]


class PieceTest(Case):
    def test_a_piece_has_its_family_and_names(self):
        family, names = Family.sized(4, 2, 2), [3, -2, 7, -1]
        for sort, word in ((Piece, "piece"), (Parity, "parity"), (OneAway, "one-away"), (Firm, "firm")):
            piece = sort(family, names)
            self.assertIs(piece.family, family)
            self.assert_same((piece.names, piece.joints(), piece.sort_word()), ((3, -2, 7, -1), (1, 0), word))
        piece = Piece(family, names)
        names.append(5)
        self.assert_same(piece.told(), ("piece", (3, -2, 7, -1)))
        self.assert_same(Piece(family, (0, 1, 2, 3)).joints(), ())

    def test_the_sorts_are_pieces_with_methods_of_their_own(self):
        self.assertEqual([sort.smallest for sort in SORTS], [3, 3, 4])
        own = {Piece: ("sort_word", "told", "joints"), Parity: ("sort_word", "is_odd", "told"),
               OneAway: ("sort_word", "centre", "told"), Firm: ("sort_word", "told")}
        for sort, names in own.items():
            self.assertTrue(issubclass(sort, Piece))
            for name in names:
                self.assertIn(name, vars(sort))

    def test_point_126_what_each_sort_tells(self):
        for size in (3, 4, 5, 10):
            names = tuple(range(size))
            for parity in (0, 1):
                piece = Parity(parity_family(size, parity), names)
                self.assert_same(piece.is_odd(), parity == 1)
                self.assert_same(piece.told(), ("parity", names, parity == 1))
            for centre in every_lot(size)[:: max(1, size - 4) * 7]:
                piece = OneAway(one_away(size, centre), names)
                self.assert_same(piece.centre(), centre)
                self.assert_same(piece.told(), ("one-away", names, centre))
        self.assert_same(Firm(Family.sized(4, 2, 2), [0, 1, 2, -1]).told(), ("firm", (0, 1, 2, -1), 6))


class PieceOfTest(Case):
    def test_point_126_the_piece_of_a_family(self):
        seen = {Parity: 0, OneAway: 0, Firm: 0, None: 0}
        for family in whole_families():
            if family.size >= 3:
                sort = true_sort(family)
                names = list(range(family.size))
                seen[sort] += 1
                if sort is None:
                    strong = strong_lots(family)
                    self.assert_error(NotAPiece(strong[0]), piece_of, family, names)
                else:
                    piece = piece_of(family, names)
                    self.assertIs(type(piece), sort)
                    self.assertIs(piece.family, family)
                    self.assert_same((piece.names, piece.sort_word()), (tuple(names), sort_words(piece)))
        self.assertGreater(min(seen.values()), 3)

    def test_point_126_all_lots_are_glued_in_two_sorts_alone(self):
        for family in [*whole_of(4), *larger_whole()]:
            glued = all_glued(family)
            self.assertEqual(glued == cut_lots(family.size), true_sort(family) in (Parity, OneAway))
            self.assertEqual(strong_lots(family) != [], true_sort(family) is None)
        for family in whole_of(3):
            self.assertIn(true_sort(family), (Parity, OneAway))

    def test_point_126_turned(self):
        for size in (3, 4, 5):
            for lot in every_lot(size):
                for parity in (0, 1):
                    piece = piece_of(parity_family(size, parity) ^ lot, tuple(range(size)))
                    self.assert_same(piece.told(), ("parity", tuple(range(size)), (parity + len(lot)) % 2 == 1))
                piece = piece_of(one_away(size, (0, 2)) ^ lot, [5, -1, -3, 4, 0][:size])
                self.assert_same(piece.told(), ("one-away", (5, -1, -3, 4, 0)[:size], plus((0, 2), lot)))

    def test_sizes_3_and_10(self):
        self.assertIs(type(piece_of(parity_family(10, 1), range_list(10))), Parity)
        self.assertIs(type(piece_of(one_away(10, (3, 7)), range_list(10))), OneAway)
        self.assertIs(type(piece_of(Family.sized(10, 5, 5), range_list(10))), Firm)
        self.assertIs(type(piece_of(Family.sized(4, 2, 2), [9, -9, 8, -8])), Firm)

    def test_errors_and_their_order(self):
        for size in (1, 2):
            self.assert_error(BadNumber("size"), piece_of, Family.everything(size), None)
        for family in [*not_whole_ones()[:6], Family.sized(4, 2, 2), Family.of(4, (), (0, 2), (0, 3), (1, 2), (1, 3))]:
            if family.size == 4:
                for names in (None, 4, "0123", {0: 1}):
                    self.assert_error(BadTable(-1), piece_of, family, names)
                for names in ((), [0, 1, 2], (0, 1, 2, 3, 4), [None]):
                    self.assert_error(BadTable(-2), piece_of, family, names)
                for names, place in (
                    ([0, 1, 2, None], 3), ([True, 0, 1, 2], 0), ([0, 1, 0, None], 2), ((-1, -2, -2, -1), 2), (["0", 1, 2, 3], 0),
                ):
                    self.assert_error(BadTable(place), piece_of, family, names)
        for family in [*not_whole_ones(), *chosen_families((4, 5))]:
            error = needed_error(family)
            if error is not None:
                self.assert_error(error, piece_of, family, range_list(family.size))
        self.assert_error(NotGated((), (0, 1, 2), 0), piece_of, Family.of(3, (), (0, 1, 2)), [0, 1, 2])
        self.assert_error(
            NotAPiece((0, 1)), piece_of, Family.of(4, (), (0, 2), (0, 3), (1, 2), (1, 3)), [4, 5, 6, 7]
        )


def range_list(size):
    return list(range(size))
