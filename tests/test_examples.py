"""The examples of DOC.md, as they stand there."""

import ast
import unittest

from turnlots import errors

STAGE_1 = '''
>>> from turnlots.families import Family
>>> from turnlots.breaks import find_break
>>> find_break(Family.of(3, (), (0, 1, 2)))
((), (0, 1, 2), 0)

>>> from turnlots.families import Family
>>> from turnlots.gates import gate, steps_toward
>>> D = Family(3, [(), [1, 0], (0, 2), (1, 2)])
>>> [gate(D, (0, 1, 2), ()), list(steps_toward(D, (), (2, 1, 0)))]
[(0, 1), [(), (0, 1)]]

>>> from turnlots.texts import family_from
>>> family_from("3: 0,1 1,,2")
raises BadText(9)

>>> from turnlots.lots import all_lots
>>> [all_lots(2), all_lots(0)]
[[(), (0,), (0, 1), (1,)], [()]]
'''

STAGE_2 = '''
>>> from turnlots.families import Family
>>> from turnlots.bases import At, same_at
>>> D = Family.of(3, (), (0, 1), (0, 2), (1, 2))
>>> at = At(D, [2, 1, 0])
>>> [at.bases(), at.circuits(), at.alike(), same_at(D, at.lot, 2)]
[[(0,), (1,), (2,)], [(0, 1), (0, 2), (1, 2)], ((0, 1, 2),), 'down']

>>> from turnlots.labels import family_of_labels
>>> family_of_labels(1, [[()], [(0,)]]).lots
((),)

>>> from turnlots.labels import family_of_labels
>>> family_of_labels(1, [[(0,)], [(0,)]])
raises BadEdge((), 0)
'''

STAGE_3 = '''
>>> from turnlots.families import Family
>>> from turnlots.rules import depth_table
>>> depth_table(Family.of(2, (), (0, 1)))
(0, 1, 0, 1)

>>> from turnlots.families import Family
>>> from turnlots.rules import broken_rule, depth_table
>>> broken_rule(3, depth_table(Family.of(3, (), (0, 1, 2))))
(3, (0,), (1, 2))

>>> from turnlots.families import Family
>>> from turnlots.met import Pair, met, met_lots, reach
>>> family = Family.of(3, (0,), (1, 2))
>>> pair = Pair((1, 0), (2,))
>>> [met(family, pair), reach(family, pair), met_lots(family, pair), (0, 1) in pair]
[2, 1, [(0,)], True]

>>> from turnlots.families import Family
>>> from turnlots.kept import least_refused
>>> first, second = least_refused(Family.of(2, (0,), (1,)))
>>> [first.wanted, first.unwanted, second.wanted, second.unwanted]
[(), (0, 1), (0, 1), ()]
'''

STAGE_4 = '''
>>> from turnlots.families import Family
>>> from turnlots.small import forget, in_of, out_of
>>> family = Family.of(3, (0,), (1, 2), (0, 1, 2))
>>> [out_of(family, 1).lots, in_of(family, 1).lots, forget(family, 1).lots]
[((0,),), ((0, 1), (1,)), ((0,), (0, 1), (1,))]

>>> from turnlots.families import Family
>>> from turnlots.counts import depth_list, short_table, shortfall
>>> family = Family.of(3, (), (0, 1, 2))
>>> [depth_list(family), shortfall(family, 0), short_table(family)]
[(2, 6), 2, (((), ()), 0)]

>>> from turnlots.families import Family
>>> from turnlots.neighbours import are_neighbours, clash
>>> from turnlots.stacks import stacked
>>> first, second = Family.of(1, ()), Family.of(1, (0,))
>>> [are_neighbours(first, second), stacked(first, second, 0).lots, clash(Family.of(2, ()), Family.of(2, (0, 1)))]
[True, ((), (0, 1)), ()]
'''

STAGE_5 = '''
>>> from turnlots.wishes import Wish
>>> w = Wish(3, -1, 2)
>>> [(w + Wish.named(3, a1=4)).numbers, (-w).numbers, w[2], w.greatest, w.turned((0,)).numbers]
[(3, 3, 2), (-3, 1, -2), 2, 3, (-3, -1, 2)]

>>> from turnlots.families import Family
>>> from turnlots.book import book, book_steps
>>> from turnlots.critical import critical, reasons
>>> D = Family.of(3, (0,), (1,))
>>> [book_steps(D, (5, 3, 9)), book(D, (5, 3, 9)), critical(D, (5, 3, 9), 0), reasons(D, (5, 3, 9), 0), critical(D, (5, 3, 9), 2)]
[[(2, False, 'forced'), (0, True, 'free'), (1, False, 'forced')], (0,), 3, [(1, 1)], None]

>>> from turnlots.families import Family
>>> from turnlots.book import best_lots, bettering, book, is_best
>>> D = Family.of(3, (), (0, 1, 2))
>>> [book(D, [4, -3, -3]), best_lots(D, [4, -3, -3]), bettering(D, [4, -3, -3], (2, 1, 0)), is_best(D, [4, -3, -3], (2, 1, 0))]
[(0, 1, 2), [()], None, False]

>>> from turnlots.families import Family
>>> from turnlots.stretches import Stretches, ends, safe_lots, side_ends, world_high
>>> D = Family.of(3, (), (0, 1), (0, 2), (1, 2))
>>> rows = Stretches([(1, 3), (2, 2), (0, 1)])
>>> [rows.unseen(), safe_lots(D, rows), ends(D, rows, 2), side_ends(D, rows, 2, (2,)), world_high(rows, high=[0]).numbers]
[(0, 2), [(0, 1)], (1, 2), (2, 1), (3, 2, 0)]
'''

STAGE_6 = '''
>>> from turnlots.families import Family
>>> from turnlots.bonds import bond_lots, bonds
>>> from turnlots.partings import finest
>>> from turnlots.sides import right_sides
>>> D = Family(4, [(0,), (0, 1), (0, 1, 2), (0, 1, 2, 3), (0, 2), (0, 2, 3), (0, 3), (1,), (1, 2), (1, 2, 3), (2, 3), (3,)])
>>> [bonds(D), bond_lots(D, 2, 1), finest(D), right_sides(D)]
[[(0, 1, True, False), (0, 3, True, False), (1, 2, False, True), (1, 3, True, False), (2, 3, False, True)], [(0, 1, 3), (1, 3)], ((0, 1, 2, 3),), [(0, 1, 3), (2,)]]

>>> from turnlots.families import Family
>>> from turnlots.effects import moves
>>> from turnlots.full import hole, reach_gap
>>> from turnlots.sides import right_side, wrong_bond
>>> D = Family.of(3, (), (0, 1), (0, 2), (1, 2))
>>> [hole(D), reach_gap(D), wrong_bond(D, (0,)), right_side(D), moves(D, 0, 1)]
[(0,), ((0,), (1, 2)), (0, 1, 'rivals'), None, 'both']

>>> from turnlots.families import Family
>>> from turnlots.bonds import showing_wish
>>> from turnlots.effects import trail
>>> from turnlots.partings import finest, split_by, wedge
>>> D = Family.of(3, (0,), (1,))
>>> one, rest = split_by(D, [2])
>>> [showing_wish(D, (1, 0), 0, 1).numbers, trail(D, (0, 1, -8), 0, 1, [-2, 0, 5]), finest(D), one.lots, rest.lots, wedge(D, (0,))]
[(0, 1, -8), [-2, 0, 5], ((0, 1), (2,)), ((),), ((0,), (1,)), ((), (0,), (1,))]
'''

STAGE_7 = '''
>>> from turnlots.even import Web
>>> web = Web.of_rows("4: 2-1 0-1")
>>> [web.links, web.web_parts(), web.sides(), (1, 0) in web]
[((0, 1), (1, 2)), ((0, 1, 2), (3,)), (0, 2), True]

>>> from turnlots.families import Family
>>> from turnlots.even import web_at
>>> from turnlots.pairing import apart_pairing, pairings
>>> D = Family.sized(4, 2, 2)
>>> [web_at(D, (0, 1)).links, pairings(web_at(D, (0, 1)), (0, 1, 2, 3)), apart_pairing(D, (0, 1), (1, 3))]
[((0, 2), (0, 3), (1, 2), (1, 3)), [((0, 2), (1, 3)), ((0, 3), (1, 2))], ((0, 3),)]

>>> from turnlots.skews import pfaffian, skew_family
>>> rows = [[0, 1, 2, 1], [-1, 0, 1, 1], [-2, -1, 0, 1], [-1, -1, -1, 0]]
>>> [pfaffian(rows, (0, 2)), pfaffian(rows, (0, 1, 2, 3)), skew_family(4, rows).lots]
[2, 0, ((), (0, 1), (0, 2), (0, 3), (1, 2), (1, 3), (2, 3))]
'''

STAGE_8 = '''
>>> from turnlots.families import Family
>>> from turnlots.breaks import is_gated
>>> from turnlots.bothways import both_partners, lone_three, one_way
>>> D = Family.of(3, (), (0,), (1,), (2,), (0, 1, 2))
>>> [is_gated(D), one_way(D), both_partners(D, (), (0, 1, 2), 0), lone_three(D)]
[True, ((), (0, 1, 2), 0), [], ((), (0, 1, 2))]

>>> from turnlots.families import Family
>>> from turnlots.bothways import pairs_and_single
>>> from turnlots.lifts import drop_last, lift
>>> from turnlots.shadows import matroid_above
>>> D = Family.sized(2, 1, 2)
>>> [lift(D).lots, drop_last(lift(D)) == D, pairs_and_single(D, (0,), (1,)), matroid_above(D).lots]
[((0, 1), (0, 2), (1, 2)), True, ((0, 1),), ((0, 1), (0, 2), (1, 2))]

>>> from turnlots.families import Family
>>> from turnlots.bothways import fewest_steps
>>> from turnlots.merges import glue_over, merge
>>> D = Family(4, [(), (0,), (1,), (2,), (3,), (0, 1, 2), (0, 1, 3), (0, 2, 3), (1, 2, 3), (0, 1, 2, 3)])
>>> glued = glue_over(Family.of(2, (), (0, 1)), Family.of(2, (0,), (1,)), [(1, 0)])
>>> [fewest_steps(D, (), (3, 2, 1, 0)), merge(Family.of(3, (0,), (1, 2)), 0, 2).lots, glued.lots]
[3, ((0,), (0, 1)), ((0,), (1,))]
'''

STAGE_9 = '''
>>> from turnlots.families import Family
>>> from turnlots.glue import Glue
>>> from turnlots.across import glue_depths
>>> A = Family.of(3, (), (0, 1), (0, 2), (1, 2))
>>> [Glue(A, 2, A, 2).family.lots, glue_depths(A, 2, A, 2)]
[((), (0, 1), (0, 1, 2, 3), (0, 2), (0, 3), (1, 2), (1, 3), (2, 3)), (8, 8)]

>>> from turnlots.families import Family
>>> from turnlots.cuts import is_glued, uneven_lot
>>> D = Family.sized(4, 2, 2)
>>> [is_glued(D, (0, 1)), uneven_lot(D, (0, 1))]
[False, ((0, 2), 0, 2, 1, 3)]

>>> from turnlots.families import Family
>>> from turnlots.trees import Tree
>>> tree = Tree(Family.of(4, (), (0, 2), (0, 3), (1, 2), (1, 3)))
>>> [tree.link_lot(0), tree.pieces[0].told(), tree.pieces[1].told(), tree.glued()]
[(0, 1), ('one-away', (0, 1, -1), (2,)), ('one-away', (2, 3, -1), (2,)), [(0, 1)]]
'''

STAGE_10 = '''
>>> from turnlots.even import Web
>>> from turnlots.nets import net_family, missed, odd_parts, reached_from
>>> web = Web.of_rows("4: 0-1 1-2 2-3")
>>> [net_family(web).lots, missed(web, (2, 1, 0)), odd_parts(web, (0, 1, 2)), reached_from(web, (0, 1, 2))]
[((), (0, 1), (0, 1, 2, 3), (1, 2), (2, 3)), (0, 2), ((0,), (2,)), (3,)]

>>> from turnlots.families import Family
>>> from turnlots.desks import Desk
>>> desk = Desk(Family.of(3, (0,), (1,), (2,)))
>>> wanted = desk.want([5, 3, 9])
>>> turned = desk.turn([0])
>>> [turned.lots, desk.best(), desk.criticals(), desk.deeds(), desk.back() == wanted]
[((), (0, 1), (0, 2)), (0, 2), (-9, 9, 3), (('want', (5, 3, 9)), ('turn', (0,))), True]

>>> from turnlots.families import Family
>>> from turnlots.listings import listing, table_text
>>> [listing(Family.of(2, (), (0, 1))), table_text(Family.of(1, (0,)))]
[['2 things, 2 lots, even, gated, 1 part', '-', '0,1', '0-1 mates'], ['-                    1    1 -', '0                    0    1 0']]

>>> from turnlots.families import Family
>>> from turnlots.desks import Desk
>>> from turnlots.trials import tried
>>> tried(Desk(Family.of(2, (0,), (1,))), [("grow", 0), ("fly",)])
raises BadWord(1)
'''


def run_example(lines):
    """What the last line of an example gives: the text of its value, or of its error."""
    names = {}
    *before, last = [line.removeprefix(">>> ") for line in lines]
    for line in before:
        exec(line, names)
    try:
        return repr(eval(last, names))
    except errors.LotsError as error:
        values = ", ".join(repr(value) for value in vars(error).values())
        return f"raises {type(error).__name__}({values})"


class ExamplesTest(unittest.TestCase):
    def check_examples(self, text):
        for example in text.strip().split("\n\n"):
            *lines, expected = example.split("\n")
            if not expected.startswith("raises"):
                expected = repr(ast.literal_eval(expected))
            self.assertEqual(run_example(lines), expected, example)

    def test_stage_1(self):
        self.check_examples(STAGE_1)

    def test_stage_2(self):
        self.check_examples(STAGE_2)

    def test_stage_3(self):
        self.check_examples(STAGE_3)

    def test_stage_4(self):
        self.check_examples(STAGE_4)

    def test_stage_5(self):
        self.check_examples(STAGE_5)

    def test_stage_6(self):
        self.check_examples(STAGE_6)

    def test_stage_7(self):
        self.check_examples(STAGE_7)

    def test_stage_8(self):
        self.check_examples(STAGE_8)

    def test_stage_9(self):
        self.check_examples(STAGE_9)

    def test_stage_10(self):
        self.check_examples(STAGE_10)
