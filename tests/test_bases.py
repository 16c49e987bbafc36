import itertools

from tests.helpers import (
    Case, every_family, every_lot, gated_families, gated_row, gated_sample, plus, true_depth,
    true_nearest,
)
from turnlots.bases import At, contracted, same_at
from turnlots.breaks import find_break
from turnlots.depths import lowers
from turnlots.errors import BadLot, BadThing, NotGated
from turnlots.families import Family

BROKEN = Family.of(3, (), (0, 1, 2))
BREAK = NotGated((), (0, 1, 2), 0)


def true_bases(family, lot):
    return sorted(plus(near, lot) for near in true_nearest(family, lot))


def true_rank(bases, lot):
    """The greatest number of things of an independent subset, by its definition."""
    return max(
        len(some) for many in range(len(lot) + 1) for some in itertools.combinations(lot, many)
        if any(set(some) <= set(base) for base in bases)
    )


def matroid_exchange(bases):
    return all(
        any(tuple(sorted({*one, y} - {x})) in bases for y in set(two) - set(one))
        for one in bases for two in bases for x in set(one) - set(two)
    )


def true_circuits(bases, size):
    free = {lot for lot in every_lot(size) if any(set(lot) <= set(base) for base in bases)}
    return [
        lot for lot in every_lot(size)
        if lot not in free and all(plus(lot, (x,)) in free for x in lot)
    ]


def sampled_lots():
    """Gated families with some of their lots of things, the empty one and E among them."""
    for family in gated_sample():
        lots = every_lot(family.size)
        step = 1 if family.size < 5 else 5
        for lot in {*lots[::step], tuple(range(family.size))}:
            yield family, lot


class AtTest(Case):
    def test_point_16_bases(self):
        for family, lot in sampled_lots():
            at = At(family, list(lot)[::-1])
            bases = true_bases(family, lot)
            self.assert_same(at.bases(), bases)
            self.assert_same([at.lot, at.rank, len(at)], [lot, true_depth(family, lot), len(bases)])
            self.assertIs(at.family, family)
            self.assertEqual({len(base) for base in bases}, {at.rank})
            self.assertTrue(matroid_exchange(bases))

    def test_point_16_at_a_lot_of_the_family_the_only_base_is_empty(self):
        for family in gated_sample():
            for lot in family.lots[:3]:
                at = At(family, lot)
                self.assert_same([at.bases(), at.rank, len(at)], [[()], 0, 1])
                self.assert_same([at.loops(), at.coloops()], [tuple(range(family.size)), ()])
                self.assert_same(at.alike(), ())
                self.assert_same(at.lumps(), tuple((x,) for x in range(family.size)))

    def test_point_17_rank_span_and_independence(self):
        for family, lot in sampled_lots():
            if family.size <= 4:
                self.check_ranks(At(family, lot), true_bases(family, lot), every_lot(family.size))

    def check_ranks(self, at, bases, lots):
        ranks = {lot: true_rank(bases, lot) for lot in lots}
        for lot in lots:
            self.assert_same(at.rank_of(lot[::-1]), ranks[lot])
            self.assertEqual(ranks[lot], max(len(set(lot) & set(base)) for base in bases))
            self.assertIs(at.is_independent(list(lot)), ranks[lot] == len(lot))
            more = {x: ranks[tuple(sorted({*lot, x}))] for x in range(at.family.size)}
            self.assertTrue(all(rank - ranks[lot] in (0, 1) for rank in more.values()))
            self.assert_same(at.spans(lot), tuple(x for x in more if more[x] == ranks[lot]))
            self.assertTrue(set(lot) <= set(at.spans(lot)))
        for one, other in itertools.combinations(lots[::2], 2):
            either, both = tuple(sorted({*one, *other})), tuple(sorted({*one} & {*other}))
            self.assertLessEqual(ranks[either] + ranks[both], ranks[one] + ranks[other])
        self.assertEqual(at.rank_of(tuple(range(at.family.size))), at.rank)

    def test_point_18_circuits_loops_coloops_and_classes(self):
        for family, lot in sampled_lots():
            at, bases, size = At(family, lot), true_bases(family, lot), family.size
            circuits = true_circuits(bases, size)
            self.assert_same(at.circuits(), circuits)
            loops = tuple(x for x in range(size) if all(x not in base for base in bases))
            self.assert_same(at.loops(), loops)
            self.assertEqual(loops, tuple(row[0] for row in circuits if len(row) == 1))
            coloops = tuple(x for x in range(size) if all(x in base for base in bases))
            self.assert_same(at.coloops(), coloops)
            self.check_alike(at, [x for x in range(size) if x not in loops], bases)
            self.check_lumps(at, circuits)

    def check_alike(self, at, seen, bases):
        together = {pair for base in bases for pair in itertools.combinations(base, 2)}
        self.assert_same(sorted(at.alike()), list(at.alike()))
        self.assertEqual(sorted(x for row in at.alike() for x in row), seen)
        place = {x: row for row in at.alike() for x in row}
        for x, y in itertools.combinations(seen, 2):
            self.assertEqual(place[x] == place[y], (x, y) not in together)
        for row in at.alike():
            self.assertEqual(row, tuple(sorted(row)))

    def check_lumps(self, at, circuits):
        lumps = at.lumps()
        self.assertEqual(list(lumps), sorted(lumps))
        self.assertEqual(sorted(x for row in lumps for x in row), list(range(at.family.size)))
        place = {x: row for row in lumps for x in row}
        for x, y in itertools.combinations(range(at.family.size), 2):
            self.assertEqual(place[x] == place[y], any({x, y} <= set(row) for row in circuits))

    def test_point_19_lowering(self):
        for family, lot in sampled_lots():
            at, bases = At(family, lot), true_bases(family, lot)
            rest = [x for x in range(family.size) if x not in at.loops()]
            self.assertEqual(list(lowers(family, lot)), rest)
            for x, z in itertools.combinations(range(family.size), 2):
                by_two = true_depth(family, plus(lot, (x, z))) == at.rank - 2
                self.assertEqual(by_two, any({x, z} <= set(base) for base in bases))
            for x in range(family.size):
                agrees = {(x in row) == (x in lot) for row in family.lots}
                self.assertEqual(x in at.coloops(), agrees == {False})

    def test_a_lot_in_at(self):
        at = At(Family.sized(4, 2, 2), ())
        for lot in ((0, 1), [1, 0], (3, 2)):
            self.assertIs(lot in at, True)
        for lot in ((0,), (), (0, 1, 2), (0, 0), None, "01", {0, 1}, 3, (0, 4), (0.0, 1), (0, True), at):
            self.assertIs(lot in at, False)

    def test_equal_matroids(self):
        one = At(Family.sized(4, 2, 2), ())
        for other in (At(Family.sized(4, 2, 3), []), At(Family.sized(4, 2, 2), (0, 1, 2, 3))):
            self.assertIs(one == other, True)
            self.assertIs(one != other, False)
        others = (At(Family.sized(4, 2, 2), (0,)), At(Family.sized(5, 2, 2), (4,)), one.bases(), None)
        for other in others:
            self.assertIs(one == other, False)
        self.assertIs(At(Family.of(2, ()), ()) == At(Family.of(3, ()), ()), False)

    def test_errors_and_their_order(self):
        self.assert_error(BadLot(-1), At, BROKEN, None)
        self.assert_error(BadLot(1), At, BROKEN, (0, 3))
        self.assert_error(BREAK, At, BROKEN, (0, 2))
        at = At(Family.sized(3, 1, 1), ())
        for method in (at.rank_of, at.is_independent, at.spans):
            self.assert_error(BadLot(-1), method, "0")
            self.assert_error(BadLot(1), method, (0, 3))
            self.assert_error(BadLot(2), method, [0, 1, 0])

    def test_edges_of_the_sizes(self):
        at = At(Family.of(1, ()), (0,))
        self.assert_same([at.bases(), at.circuits(), at.coloops(), at.alike()], [[(0,)], [], (0,), ((0,),)])
        self.assert_same([at.lumps(), at.spans(()), at.spans((0,))], [((0,),), (), (0,)])
        at = At(Family.sized(10, 5, 5), ())
        self.assertEqual([len(at), len(at.circuits()), at.rank], [252, 210, 5])
        self.assert_same(at.lumps(), (tuple(range(10)),))
        self.assertEqual(at.alike(), tuple((x,) for x in range(10)))
        self.assert_same(at.spans((0, 1, 2, 3)), (0, 1, 2, 3))
        self.assert_same(at.spans((0, 1, 2, 3, 9)), tuple(range(10)))

    def test_point_1_answers_are_new(self):
        at = At(Family.sized(3, 1, 1), [2, 1])
        for method in (at.bases, at.circuits):
            self.assert_new(method)
        self.assert_new(contracted, At(Family.sized(3, 2, 2), ()), 1)


class EdgesTest(Case):
    def test_point_20_exactly_one_of_three(self):
        for family, lot in sampled_lots():
            here = true_bases(family, lot)
            for x in range(family.size):
                there = true_bases(family, plus(lot, (x,)))
                down = any(x in base for base in here)
                up = any(x in base for base in there)
                self.assertFalse(down and up)
                if down:
                    self.assert_same(contracted(At(family, lot), x), there)
                elif not up:
                    self.assertEqual(here, there)
                word = "down" if down else "up" if up else "same"
                self.assert_same(same_at(family, list(lot), x), word)

    def test_point_20_contracted_is_what_happens_going_down(self):
        at = At(Family.sized(4, 2, 2), [])
        self.assert_same(contracted(at, 1), [(0,), (2,), (3,)])
        self.assert_same(contracted(At(Family.of(2, ()), (0,)), 0), [()])

    def test_errors_and_their_order(self):
        self.assert_error(BadLot(0), same_at, BROKEN, (3,), None)
        self.assert_error(BadLot(-1), same_at, BROKEN, None, None)
        for thing in (-1, 3, True, None, "0"):
            self.assert_error(BadThing(thing), same_at, BROKEN, (0,), thing)
        self.assert_error(BREAK, same_at, BROKEN, (0,), 2)
        at = At(Family.of(3, (0,), (0, 1)), (2,))
        for thing in (-1, 3, False, None, "1", 1):
            self.assert_error(BadThing(thing), contracted, at, thing)
        self.assert_same(contracted(at, 2), [(0,)])

    def test_not_gated_tells_the_first_break(self):
        for family in every_family(3, 7):
            found = find_break(family)
            if found:
                self.assert_error(NotGated(*found), At, family, ())
                self.assert_error(NotGated(*found), same_at, family, (), 0)

    def test_point_21_ways_down(self):
        for family in [*gated_families(3)[::4], *gated_families(4)[::500], *gated_row(5)]:
            for lot in every_lot(family.size)[::3]:
                rows = {lot: true_bases(family, lot)}
                for _ in range(true_depth(family, lot)):
                    rows = self.one_step_down(family, rows)
                self.assertEqual(sorted(rows), true_nearest(family, lot))
                self.assertTrue(all(lowers(family, row) == () for row in rows))

    def one_step_down(self, family, rows):
        reached = {}
        for lot, bases in rows.items():
            self.assertTrue(lowers(family, lot))
            for x in lowers(family, lot):
                lower = sorted(plus(base, (x,)) for base in bases if x in base)
                there = plus(lot, (x,))
                # the bases are the same by whichever way the lot is reached
                self.assertEqual(reached.setdefault(there, lower), lower)
                self.assertEqual(lower, true_bases(family, there))
        return reached

    def test_point_25_turned(self):
        for family in [*gated_families(3)[::5], *gated_families(4)[::700]]:
            for turn in every_lot(family.size)[::2]:
                for lot in every_lot(family.size):
                    there = At(family ^ turn, plus(lot, turn))
                    self.assertTrue(there == At(family, lot))

    def test_point_25_side_by_side(self):
        for one in gated_families(2):
            for other in gated_families(3)[::12]:
                for lot, row in itertools.product(every_lot(2), every_lot(3)):
                    moved = tuple(x + 2 for x in row)
                    unions = [
                        base + tuple(x + 2 for x in more)
                        for base in At(one, lot).bases() for more in At(other, row).bases()
                    ]
                    self.assert_same(At(one * other, lot + moved).bases(), sorted(unions))
