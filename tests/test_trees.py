import itertools
import random

from tests.helpers import Case, chosen_families, every_lot
from tests.test_cuts import all_glued, rest_of, true_crosses
from tests.test_glue import needed_error
from tests.test_pieces import one_away, parity_family, true_sort
from tests.whole import (
    cut_lots, glued_row, is_whole_even, larger_whole, not_whole_ones, true_glue, true_is_glued, tree_families, whole_of,
)
from turnlots.breaks import find_break
from turnlots.cuts import glued_lots, strong_lots
from turnlots.errors import BadNumber, BadThing, NotGated
from turnlots.families import Family
from turnlots.partings import hangs_together
from turnlots.pieces import Firm, OneAway, Parity
from turnlots.small import in_of, out_of
from turnlots.trees import Tree

TWO_AWAY = Family.of(4, (), (0, 2), (0, 3), (1, 2), (1, 3))


def families():
    yield from whole_of(3)
    yield from whole_of(4)
    yield from larger_whole()
    yield from tree_families()


def true_links(family):
    glued = all_glued(family)
    return [
        lot for lot in glued if 0 in lot and not any(true_crosses(lot, other, family.size) for other in glued)
    ]


def true_pieces(family):
    """The names and the family of each piece: points 127 and 128, word by word."""
    links = true_links(family)
    far_sides = [set(rest_of(family, lot)) for lot in links]
    found = []
    for stem, own in [(set(range(family.size)), []), *((side, [k]) for k, side in enumerate(far_sides))]:
        lesser = [side for side in far_sides if side < stem]
        things = [x for x in sorted(stem) if not any(x in side for side in lesser)]
        ks = own + [
            k for k, side in enumerate(far_sides) if side in lesser and not any(side < other for other in lesser)
        ]
        names = [*things, *(-1 - k for k in sorted(ks))]
        lots = set()
        for lot in family:
            is_in = [
                name in lot if name >= 0 else len(set(lot) & set(links[-1 - name])) % 2 == 1 for name in names
            ]
            lots.add(tuple(place for place, told in enumerate(is_in) if told))
        found.append((tuple(names), Family(len(names), sorted(lots))))
    return sorted(found, key=lambda row: row[0])


class TreeTest(Case):
    def test_points_127_128_links_and_pieces(self):
        most = 0
        for family in families():
            tree, links = Tree(family), true_links(family)
            self.assertIs(tree.family, family)
            self.assert_same(tree.many_links, len(links))
            self.assert_same([tree.link_lot(k) for k in range(tree.many_links)], links)
            self.assertEqual([(piece.names, piece.family) for piece in tree.pieces], true_pieces(family))
            self.assertIsInstance(tree.pieces, tuple)
            self.assertEqual(len(tree.pieces), len(links) + 1)
            for k, lot in enumerate(links):
                self.assert_same([tree.side_of(k, x) for x in range(family.size)], [x in lot for x in range(family.size)])
            for one, other in itertools.combinations([set(rest_of(family, lot)) for lot in links], 2):
                self.assertTrue(not one & other or one <= other or other <= one)
            most = max(most, len(links))
        self.assertGreaterEqual(most, 4)

    def test_point_129_the_pieces_are_of_the_three_sorts(self):
        seen = set()
        for family in families():
            tree = Tree(family)
            words = []
            for piece in tree.pieces:
                self.assertGreaterEqual(len(piece.names), piece.smallest)
                self.assertTrue(is_whole_even(piece.family))
                self.assertIs(type(piece), true_sort(piece.family))
                words.append(piece.sort_word())
            numbers = {word: words.count(word) for word in ("parity", "one-away", "firm")}
            self.assert_same(tree.counts(), numbers)
            for k in range(tree.many_links):
                one, other = [piece for piece in tree.pieces if k in piece.joints()]
                self.assertFalse(type(one) is Parity and type(other) is Parity)
                if type(one) is OneAway and type(other) is OneAway:
                    sides = [piece.names.index(-1 - k) in piece.centre() for piece in (one, other)]
                    self.assertEqual(sides[0], sides[1])
                seen.add(frozenset((type(one), type(other))))
        self.assertEqual(len(seen), 5)

    def test_point_130_back_in_every_order(self):
        for family in families():
            tree = Tree(family)
            self.assertEqual(tree.back_family(), family)
            orders = list(itertools.permutations(range(tree.many_links)))
            for order in orders[:: max(1, len(orders) // 24)]:
                self.assertEqual(tree.back_family(order), family)
                self.assertEqual(tree.back_family(list(order)), family)

    def test_point_131_all_glued_lots_by_the_tree(self):
        for family in families():
            tree = Tree(family)
            found = [tree.link_lot(k) for k in range(tree.many_links)]
            for piece in tree.pieces:
                if type(piece) is not Firm:
                    found += self.unions(family, tree, piece)
            self.assertEqual(len(found), len(set(found)))
            glued = [lot for lot in all_glued(family) if 0 in lot]
            self.assertEqual(sorted(found), glued)
            self.assert_same(tree.glued(), glued)
            self.assert_same(tree.count_glued(), len(glued))
            self.assertEqual(glued, glued_lots(family))

    def unions(self, family, tree, piece):
        branches = []
        for name in piece.names:
            if name >= 0:
                branches.append((name,))
            else:
                lot = tree.link_lot(-1 - name)
                things = [x for x in piece.names if x >= 0]
                # a piece without things of its own has its stem to tell the side
                rest = rest_of(family, lot)
                own = self.stem_of(family, tree, piece) == rest
                branches.append(lot if own else rest)
                self.assertFalse(set(things) & set(branches[-1]))
        self.assertEqual(sorted(x for branch in branches for x in branch), list(range(family.size)))
        m = len(branches)
        found = [
            tuple(sorted(x for branch in some for x in branch))
            for many in range(2, m - 1) for some in itertools.combinations(branches, many)
        ]
        found = [lot for lot in found if 0 in lot]
        self.assertEqual(len(found), 2 ** (m - 1) - m - 1)
        return found

    def stem_of(self, family, tree, piece):
        """The far side that is the stem of the piece, all things if none is."""
        places = [names for names, _ in true_pieces(family)]
        stems = [tuple(range(family.size))] + [rest_of(family, tree.link_lot(k)) for k in range(tree.many_links)]
        for stem in stems:
            lesser = [other for other in stems[1:] if set(other) < set(stem)]
            things = tuple(x for x in stem if not any(x in other for other in lesser))
            nearest = [other for other in lesser if not any(set(other) < set(more) for more in lesser)]
            links = sorted(stems[1:].index(other) for other in nearest + [stem] if other in stems[1:])
            if (*things, *(-1 - k for k in links)) == piece.names:
                return stem
        return self.fail(places)

    def test_point_132_turned(self):
        for family in [*whole_of(4)[::5], *larger_whole()[::4], *tree_families()[:2]]:
            tree = Tree(family)
            for lot in every_lot(family.size)[1 :: 2 ** (family.size - 2) - 1]:
                turned = Tree(family ^ lot)
                self.assertEqual(turned.glued(), tree.glued())
                self.assertEqual(strong_lots(turned.family), strong_lots(family))
                self.assertEqual([piece.names for piece in turned.pieces], [piece.names for piece in tree.pieces])
                for piece, other in zip(tree.pieces, turned.pieces):
                    turn = [
                        place for place, name in enumerate(piece.names)
                        if (name in lot if name >= 0 else len(set(lot) & set(tree.link_lot(-1 - name))) % 2)
                    ]
                    self.assertEqual(other.family, piece.family ^ turn)

    def test_point_132_small(self):
        seen = 0
        for family in larger_whole():
            for lot in all_glued(family):
                for x in lot if len(lot) > 2 else ():
                    left = tuple(y - (y > x) for y in lot if y != x)
                    for small in (out_of(family, x), in_of(family, x)):
                        if hangs_together(small):
                            seen += 1
                            self.assertTrue(true_is_glued(small, left))
        self.assertGreater(seen, 200)

    def test_two_one_away_pieces_side_by_side(self):
        tree = Tree(TWO_AWAY)
        self.assert_same(
            [tree.many_links, tree.link_lot(0), *[piece.told() for piece in tree.pieces]],
            [1, (0, 1), ("one-away", (0, 1, -1), (2,)), ("one-away", (2, 3, -1), (2,))],
        )
        self.assert_same([tree.side_of(0, x) for x in range(4)], [True, True, False, False])
        self.assert_same([tree.glued(), tree.count_glued()], [[(0, 1)], 1])
        self.assert_same(tree.counts(), {"parity": 0, "one-away": 2, "firm": 0})

    def test_families_without_a_tree_link(self):
        for size in (3, 4, 5, 9):
            names = tuple(range(size))
            for family, told in (
                (parity_family(size, 1), ("parity", names, True)), (one_away(size, (1,)), ("one-away", names, (1,))),
                *([(Family.sized(size, 2, 2), ("firm", names, size * (size - 1) // 2))] if size > 3 else []),
            ):
                tree = Tree(family)
                self.assert_same([tree.many_links, *[piece.told() for piece in tree.pieces]], [0, told])
                self.assertEqual(tree.pieces[0].family, family)
                self.assertEqual([tree.back_family(), tree.back_family([])], [family] * 2)
                expected = [] if told[0] == "firm" else [lot for lot in cut_lots(size) if 0 in lot]
                self.assert_same(tree.glued(), expected)
                self.assert_error(BadNumber("k"), tree.link_lot, 0)
                self.assert_error(BadNumber("order"), tree.back_family, [0])

    def test_size_10(self):
        chooser = random.Random(5)
        for _ in range(3):
            family = glued_row(10, chooser)
            tree = Tree(family)
            self.assertGreater(tree.many_links, 1)
            for order in [(), *itertools.permutations(range(tree.many_links))][:3]:
                self.assertEqual(tree.back_family(order), family)
            expected = tree.many_links + sum(
                2 ** (len(piece.names) - 1) - len(piece.names) - 1
                for piece in tree.pieces if type(piece) is not Firm
            )
            self.assert_same(tree.count_glued(), expected)

    def test_point_1_answers_are_new(self):
        tree = Tree(TWO_AWAY)
        self.assert_new(tree.glued)
        self.assert_new(tree.counts)

    def test_arguments_that_are_wrong(self):
        tree = Tree(TWO_AWAY)
        for k in (-1, 1, True, False, None, "0"):
            self.assert_error(BadNumber("k"), tree.link_lot, k)
            self.assert_error(BadNumber("k"), tree.side_of, k, None)
        for thing in (-1, 4, True, None):
            self.assert_error(BadThing(thing), tree.side_of, 0, thing)
        two = Tree(parity_glued())
        self.assertEqual(two.many_links, 2)
        self.assertEqual(two.back_family((1, 0)), two.family)
        for order in (None, 0, "01", {0: 1}, [0], [0, 0], [0, 2], [0, 1, 1], [0, 1, 2], [False, True], [0, "1"], [None, 0], [1]):
            self.assert_error(BadNumber("order"), two.back_family, order)

    def test_errors_of_the_family_and_their_order(self):
        for family in (Family.everything(1), Family.everything(2), Family.of(2, (), (0, 1)), Family.of(2, (0,))):
            self.assert_error(BadNumber("size"), Tree, family)
        for family in [*not_whole_ones(), *chosen_families((4, 5)), Family.everything(3), Family.of(3, (0,), (1,))]:
            error = needed_error(family)
            if error is not None:
                self.assert_error(error, Tree, family)
        broken = Family.of(3, (), (0, 1, 2))
        self.assert_error(NotGated(*find_break(broken)), Tree, broken)


def parity_glued():
    """One-away families at two things of a parity family: two tree links."""
    parity, away = parity_family(4, 0), one_away(3, ())
    return true_glue(true_glue(parity, 3, away, 0), 2, away, 0)
