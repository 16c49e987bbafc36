"""Which error comes first, for every function of the interface that takes a family or a web.

Each line of CALLS names a function, the kinds of its arguments, and what is due in the order in which
the document has it. Arguments are drawn right and wrong in all mixtures; what is expected is the first
of these errors that is due.
"""

import importlib
import random

from tests.helpers import (
    Case, all_breaks, chosen_families, every_family, gap_of, gated_families, plus, small_families, true_depth,
)
from tests.test_bonds import true_marks
from tests.test_full import true_filled
from turnlots import errors as e
from turnlots.even import Web
from turnlots.families import Family
from turnlots.met import Pair
from turnlots.partings import finest
from turnlots.wishes import Wish

CALLS = """
gates.nearest D L: lot1
gates.gate D L L: lot1 lot2 in2
gates.least_lots D L: lot1
gates.can_step D L L: lot1 lot2 in1
breaks.partners D L L T: lot1 lot2 apart3 in1 in2
breaks.break_sort D L L T: lot1 lot2 apart3 in1 in2 least_break
breaks.needs_gated D: gated
breaks.outside_neighbours D L: lot1
depths.depth_of D L: lot1
depths.lowers D L: lot1
depths.raises D L: lot1
depths.level_lots D N: level1
bases.At D L: lot1 gated
bases.same_at D L T: lot1 thing2 gated
labels.labels_of D: gated
peaks.is_peak D L: lot1 gated
peaks.peaks D: gated
peaks.peak_above D L: lot1 gated
peaks.peak_lots D L: lot1 peak1 gated
met.met D P: pair1
met.reach D P: pair1
met.met_lots D P: pair1
met.is_kept D P: pair1
met.keeper D P: pair1
reaches.met_table D: six
kept.least_refused D: six
kept.forced D P: pair1 kept1
kept.free_after D P: pair1 kept1
small.out_of D T: thing1 more out1
small.in_of D T: thing1 more in_of1
small.forget D T: thing1 more
small.forget_all D L: lot1 left1
small.grown D T: nine place1
counts.shortfall D T: loose1 more
counts.short_table D: six
neighbours.clash D O: same1
neighbours.are_neighbours D O: same1
stacks.stacked D O T: nine same1 place2
stacks.unstacked D T: thing1 more out1 in_of1
away.within D N: number1
away.just_at D N: gap1
book.best_value D W: wish1
book.best_lots D W: wish1
book.best_family D W: wish1
book.book D W: wish1
book.book_steps D W: wish1
book.is_best D W L: wish1 lot2 in2
book.bettering D W L: wish1 lot2 in2
critical.critical D W T: wish1 thing2
critical.Critical D T: thing1
critical.enters D W T: wish1 thing2
critical.reasons D W T: wish1 thing2
edges.two_best_wish D L L: lot1 lot2 in1 in2 two_alone
four.four_bests D W T T: wish1 thing2 thing3 other3
four.crossed D W T T: wish1 thing2 thing3 other3
stretches.is_safe D S L: rows1 lot2 in2
stretches.is_possible D S L: rows1 lot2 in2
stretches.safe_lots D S: rows1
stretches.ends D S T: rows1 thing2
stretches.side_ends D S T L: rows1 thing2 lot3
bonds.bond_lots D T T: thing1 thing2 other2
bonds.are_rivals D T T: thing1 thing2 other2
bonds.are_mates D T T: thing1 thing2 other2
bonds.are_bonded D T T: thing1 thing2 other2
bonds.rivals_of D T: thing1
bonds.mates_of D T: thing1
bonds.showing_wish D L T T: lot1 thing2 thing3 other3 bonded
partings.parted_by D L: lot1 part1
partings.needs_whole D: whole
partings.split_by D L: lot1 part1 parted1
partings.wedge D L: lot1 part1 gated
full.reach_gap D: six
sides.wrong_bond D L: lot1
sides.is_right D L: lot1
effects.moves D T T: thing1 thing2 other2 gated
effects.crossing D T T: thing1 thing2 other2 gated
effects.trail D W T T V: wish1 thing2 thing3 other3 numbers4 gated
effects.worlds_tell D L: lot1 gated
effects.wrong_world D L: lot1 gated
even.needs_even D: even
even.web_at D L: lot1 in1
pairing.pairings B L: lot1
pairing.pairing_count B L: lot1
pairing.pairs_up B L: lot1
pairing.greatest_pairing B L: lot1
pairing.apart_pairing D L L: lot1 lot2 in1 in2
pairing.both_partner D L L T: lot1 lot2 apart3 in1 in2
fours.lone_four D: even
onelot.parts_at D L: lot1 in1 gated even
onelot.is_turned_matroid D: gated even
onelot.turning_at D L: lot1 in1 gated even
onelot.turned_sizes D L: lot1
onelot.told_by_web D: gated even
onelot.fullest_at D L: lot1 in1 gated even
onelot.step_web D L T T: lot1 thing2 thing3 other3 in1 in_step gated even
skews.twin_at D L: lot1 in1 gated even
bothways.needs_both D: both
bothways.both_partners D L L T: lot1 lot2 apart3 in1 in2
bothways.pairs_and_single D L L: lot1 lot2 in1 in2
bothways.fewest_steps D L L: lot1 lot2 in1 in2
lifts.lift D: nine
lifts.drop_last D: more
lifts.parity_lots D N: parity1 some_parity1
merges.merge D T T: thing1 thing2 other2
merges.join D O: same1
shadows.matroid_above D: above gated full
shadows.cut_to D N N: low1 high2 some_cut
glue.Glue D T O T: glue_size loose1 loose_other gated even gated_other even_other
glue.cut_off D L: lot1 cut1 gated even whole glued1
glue.put_back D O L: glue_size lot_back last last_other gated even gated_other even_other
cuts.is_glued D L: lot1 cut1 gated even whole
cuts.uneven_lot D L: lot1 cut1 gated even whole
cuts.far_cut D L: lot1 cut1 gated even whole
cuts.mixed_lot D L: lot1 cut1 gated even whole
cuts.glued_lots D: gated even whole
cuts.strong_lots D: gated even whole
pieces.piece_of D V: three names1 gated even whole piece
trees.Tree D: three gated even whole
across.near D T: loose1 gated even
across.glue_depths D T O T: loose1 loose_other gated even gated_other even_other
nets.missed B L: lot1
nets.odd_parts B L: lot1
nets.reached_from B L: lot1
nets.net_glued B L: lot1 cut1 whole_web
nets.is_net_at D L: lot1 in1
asked.told_apart D O: same1 six
desks.Desk D: gated
listings.table_text D: gated
"""


def is_int(value):
    return type(value) is int


def bad_lot(lot, size):
    if not isinstance(lot, (tuple, list)):
        return e.BadLot(-1)
    for place, thing in enumerate(lot):
        if not is_int(thing) or not 0 <= thing < size or thing in lot[:place]:
            return e.BadLot(place)
    return None


def bad_thing(thing, size):
    return None if is_int(thing) and 0 <= thing < size else e.BadThing(thing)


def bad_inside(family, lot):
    row = tuple(sorted(lot))
    return None if row in family.lots else e.NotInside(row)


def bad_pair(pair, size):
    if isinstance(pair, Pair):
        pair = (pair.wanted, pair.unwanted)
    if not isinstance(pair, (tuple, list)) or len(pair) != 2:
        return e.BadPair(-1)
    common = None if bad_lot(pair[0], size) or bad_lot(pair[1], size) else sorted(set(pair[0]) & set(pair[1]))
    return bad_lot(pair[0], size) or bad_lot(pair[1], size) or (e.BadPair(common[0]) if common else None)


def bad_wish(wish, size):
    numbers = wish.numbers if isinstance(wish, Wish) else wish
    if not isinstance(numbers, (tuple, list)):
        return e.BadWish(-1)
    if len(numbers) != size:
        return e.BadWish(-2)
    return next((e.BadWish(place) for place, number in enumerate(numbers) if not is_int(number)), None)


def bad_rows(rows, size):
    if not isinstance(rows, (tuple, list)):
        return e.BadStretch(-1)
    if len(rows) != size:
        return e.BadStretch(-2)
    for place, row in enumerate(rows):
        good = isinstance(row, (tuple, list)) and len(row) == 2 and is_int(row[0]) and is_int(row[1])
        if not good or row[0] > row[1]:
            return e.BadStretch(place)
    return None


def bad_names(names, size):
    if not isinstance(names, (tuple, list)):
        return e.BadTable(-1)
    if len(names) != size:
        return e.BadTable(-2)
    return next((
        e.BadTable(place) for place, name in enumerate(names) if not is_int(name) or name in names[:place]
    ), None)


def not_gated(family):
    found = all_breaks(family)
    return e.NotGated(*found[0]) if found else None


def not_even(family):
    found = [(one, two) for one in family for two in family if one < two and gap_of(one, two) % 2]
    return e.NotEven(*min(found)) if found else None


def not_whole(family):
    parts = finest(family)
    return e.NotWhole(parts[0]) if len(parts) > 1 else None


def not_both(family):
    lots = set(family.lots)
    for one in family:
        for two in family:
            things = plus(one, two)
            for x in things:
                if not any(plus(one, {x, y}) in lots and plus(two, {x, y}) in lots for y in things):
                    return e.NotBothWays(one, two, x)
    return None


def not_glued(family, lot):
    part, lots = set(lot), set(family.lots)
    mixed = any(
        plus(set(one) & part, set(two) - part) not in lots for one in family for two in family
        if (len(set(one) & part) - len(set(two) & part)) % 2 == 0
    )
    return e.NotGlued(tuple(sorted(lot))) if mixed else None


def not_least_break(family, one, two, thing):
    breaks = all_breaks(family)
    least = min([gap_of(*found[:2]) for found in breaks], default=None)
    row = (tuple(sorted(one)), tuple(sorted(two)), thing)
    return None if row in breaks and gap_of(one, two) == least else e.BadNumber("gap")


def not_two_alone(family, one, two):
    things = set(plus(one, two))
    box = [lot for lot in family if set(plus(lot, one)) <= things]
    return e.BadNumber("gap") if not things or (len(things) > 2 and len(box) > 2) else None


def not_bonded(family, lot, x, y):
    lots = set(family.lots)
    told = plus(lot, ()) not in lots and plus(lot, (x,)) in lots and plus(lot, (y,)) in lots
    return None if told else e.NotBonded(x, y)


def not_parted(family, lot):
    lots, part = set(family.lots), set(lot)
    told = all(plus(set(one) & part, set(two) - part) in lots for one in family for two in family)
    return None if told else e.NotParted(tuple(sorted(lot)))


def not_a_piece(family):
    size, lots = family.size, list(family)
    around = [sorted(plus(lot, (x,)) for x in range(size)) for lot in Family.everything(size)]
    if len(lots) == 2 ** (size - 1) or lots in around:
        return None
    cuts = [lot for lot in Family.everything(size) if 2 <= len(lot) <= size - 2]
    glued = [set(lot) for lot in cuts if not_glued(family, lot) is None]
    strong = [
        tuple(sorted(one)) for one in glued if 0 in one
        and not any(one & two and one - two and two - one and set(range(size)) - one - two for two in glued)
    ]
    return e.NotAPiece(min(strong)) if strong else None


def not_kept(family, pair):
    wanted, unwanted = (pair.wanted, pair.unwanted) if isinstance(pair, Pair) else pair
    told = any(set(wanted) <= set(lot) and not set(unwanted) & set(lot) for lot in family)
    return None if told else e.NoLot()


def hole_of(family):
    holes = [lot for lot in true_filled(family) if lot not in family.lots]
    return e.NotFull(min(holes)) if holes else None


def bad_name(is_bad, name):
    return e.BadNumber(name) if is_bad else None


def no_lot(is_left):
    return None if is_left else e.NoLot()


def spread(family):
    return max(len(lot) for lot in family) - min(len(lot) for lot in family)


def bad_loose(family, thing):
    return None if is_int(thing) and thing in family.loose() else e.BadThing(thing)


def raising(family, lot):
    up = any(true_depth(family, plus(lot, (x,))) > true_depth(family, lot) for x in range(family.size))
    return e.NotInside(tuple(sorted(lot))) if up else None


# What each word of CALLS asks of the arguments a, a[0] being the family or the web.
CHECKS = {
    **{f"lot{k}": lambda a, k=k: bad_lot(a[k], a[0].size) for k in (1, 2, 3)},
    **{f"thing{k}": lambda a, k=k: bad_thing(a[k], a[0].size) for k in (1, 2, 3)},
    **{f"in{k}": lambda a, k=k: bad_inside(a[0], a[k]) for k in (1, 2)},
    **{f"loose{k}": lambda a, k=k: bad_loose(a[0], a[k]) for k in (1,)},
    **{f"place{k}": lambda a, k=k: bad_thing(a[k], a[0].size + 1) for k in (1, 2)},
    **{f"other{k}": lambda a, k=k: e.BadThing(a[k]) if a[k] == a[k - 1] else None for k in (2, 3)},
    "apart3": lambda a: None if is_int(a[3]) and a[3] in plus(a[1], a[2]) else e.BadThing(a[3]),
    "in2": lambda a: bad_inside(a[0], a[2]),
    "wish1": lambda a: bad_wish(a[1], a[0].size),
    "rows1": lambda a: bad_rows(a[1], a[0].size),
    "pair1": lambda a: bad_pair(a[1], a[0].size),
    "names1": lambda a: bad_names(a[1], a[0].size),
    "kept1": lambda a: not_kept(a[0], a[1]),
    "numbers4": lambda a: bad_name(not isinstance(a[4], (tuple, list)) or not all(map(is_int, a[4])), "numbers"),
    "level1": lambda a: bad_name(not is_int(a[1]) or a[1] < 0, "level"),
    "number1": lambda a: bad_name(not is_int(a[1]) or a[1] < 0, "number"),
    "gap1": lambda a: bad_name(not is_int(a[1]) or not 0 <= a[1] <= a[0].size, "number"),
    "parity1": lambda a: bad_name(not is_int(a[1]) or a[1] not in (0, 1), "parity"),
    "low1": lambda a: bad_name(not is_int(a[1]), "low"),
    "high2": lambda a: bad_name(not is_int(a[2]), "high"),
    "some_parity1": lambda a: no_lot(any(len(lot) % 2 == a[1] for lot in a[0])),
    "some_cut": lambda a: no_lot(any(a[1] <= len(lot) <= a[2] for lot in a[0])),
    "out1": lambda a: no_lot(any(a[1] not in lot for lot in a[0])),
    "in_of1": lambda a: no_lot(any(a[1] in lot for lot in a[0])),
    "more": lambda a: bad_name(a[0].size == 1, "size"),
    "three": lambda a: bad_name(a[0].size < 3, "size"),
    "left1": lambda a: bad_name(len(a[1]) == a[0].size, "size"),
    "six": lambda a: e.TooMany("things") if a[0].size > 6 else None,
    "nine": lambda a: e.TooMany("things") if a[0].size == 10 else None,
    "above": lambda a: e.TooMany("things") if a[0].size + spread(a[0]) > 10 else None,
    "same1": lambda a: None if a[1].size == a[0].size else e.OtherSize(a[1].size),
    "part1": lambda a: e.BadLot(-1) if len(a[1]) in (0, a[0].size) else None,
    "cut1": lambda a: None if 2 <= len(a[1]) <= a[0].size - 2 else e.BadLot(-1),
    "parted1": lambda a: not_parted(a[0], a[1]),
    "glued1": lambda a: not_glued(a[0], a[1]),
    "peak1": lambda a: raising(a[0], a[1]),
    "least_break": lambda a: not_least_break(a[0], a[1], a[2], a[3]),
    "two_alone": lambda a: not_two_alone(a[0], a[1], a[2]),
    "bonded": lambda a: not_bonded(a[0], a[1], a[2], a[3]),
    "in_step": lambda a: bad_inside(a[0], plus(a[1], (a[2], a[3]))),
    "gated": lambda a: not_gated(a[0]),
    "even": lambda a: not_even(a[0]),
    "whole": lambda a: not_whole(a[0]),
    "full": lambda a: hole_of(a[0]),
    "both": lambda a: not_both(a[0]),
    "piece": lambda a: not_a_piece(a[0]),
    "whole_web": lambda a: e.NotWhole(a[0].web_parts()[0]) if len(a[0].web_parts()) > 1 else None,
    "glue_size": lambda a: e.TooMany("things") if a[0].size + other_of(a).size > 12 else None,
    "loose_other": lambda a: bad_loose(a[2], a[3]),
    "gated_other": lambda a: not_gated(other_of(a)),
    "even_other": lambda a: not_even(other_of(a)),
    "lot_back": lambda a: bad_lot(a[2], a[0].size + a[1].size - 2)
    or (None if len(a[2]) == a[0].size - 1 else e.BadLot(-1)),
    "last": lambda a: bad_loose(a[0], a[0].size - 1),
    "last_other": lambda a: bad_loose(a[1], a[1].size - 1),
}


def other_of(args):
    return args[2] if isinstance(args[2], Family) else args[1]


class Drawer:
    """Draws arguments of each kind, right ones and wrong ones."""

    def __init__(self, seed):
        self.chooser = random.Random(seed)
        even = [family for family in gated_families(4) if len({len(lot) % 2 for lot in family}) == 1]
        self.families = [*list(small_families())[::3], *every_family(4, 9001), *gated_families(4)[::300], *even[::6], *chosen_families((4, 5), 3)]
        self.families += [family for family in chosen_families((7,), 1) if len(family) < 20]
        self.families += [*gated_families(1) * 3, *([Family.of(10, (), (1, 2)), Family.of(10, (4,)), Family.of(7, (), (6,))] * 3)]

    def draw(self, kind, size):
        return getattr(self, f"draw_{kind}")(self.chooser, size)

    def draw_D(self, chooser, size):
        return chooser.choice(self.families)

    def draw_O(self, chooser, size):
        same = [family for family in self.families if family.size == size]
        return chooser.choice(same if chooser.random() < 0.6 else self.families)

    def draw_B(self, chooser, size):
        size = chooser.choice((1, 2, 3, 4, 5))
        links = [(x, y) for x in range(size) for y in range(x)]
        return Web(size, chooser.sample(links, chooser.randint(0, len(links))))

    def draw_L(self, chooser, size):
        lot = chooser.sample(range(size), chooser.randint(0, size))
        if chooser.random() < 0.2:
            lot.insert(chooser.randint(0, len(lot)), chooser.choice((size, -1, True, None, "0", lot[0] if lot else 1.0)))
        return chooser.choice((lot, tuple(lot), lot, tuple(lot), None, "01")) if chooser.random() < 0.3 else tuple(lot)

    def draw_T(self, chooser, size):
        return chooser.choice((-1, size, True, False, None, "0")) if chooser.random() < 0.25 else chooser.randrange(size + 1)

    def draw_N(self, chooser, size):
        return chooser.choice((0, 1, 2, 3, size, size + 1, -1, True, None, "1", 1.0))

    def draw_V(self, chooser, size):
        row = chooser.sample(range(-size, size), size)
        return chooser.choice((row, tuple(row), row, row[1:], [None, *row[1:]], row[:1] * size, None, "12"))

    def draw_W(self, chooser, size):
        row = [chooser.randint(-5, 5) for _ in range(size)]
        return chooser.choice((row, tuple(row), Wish(*row), row, [*row, 1], [*row[1:], None], [True, *row[1:]], None, "1"))

    def draw_S(self, chooser, size):
        rows = [(low, low + chooser.randint(0, 3)) for low in chooser.choices(range(-3, 3), k=size)]
        return chooser.choice((rows, tuple(rows), rows, [*rows, (0, 0)], [*rows[1:], (1, 0)], [None, *rows[1:]], None, ()))

    def draw_P(self, chooser, size):
        signs = [chooser.choice((0, 1, 2, 2)) for _ in range(size)]
        pair = tuple(x for x in range(size) if signs[x] == 0), tuple(x for x in range(size) if signs[x] == 1)
        bad = (self.draw_L(chooser, size), self.draw_L(chooser, size))
        return chooser.choice((pair, list(pair), Pair(*pair), bad, bad, None, (*pair, ()), Pair((size,), ())))


class PointThirteenTest(Case):
    def check_call(self, line, least=120, most=6000):
        """Draws arguments for the call, until each error that is due, and none, was seen."""
        head, due = line.split(": ")
        name, *kinds = head.split(" ")
        call = getattr(importlib.import_module("turnlots." + name.split(".")[0]), name.split(".")[1])
        drawer, left = Drawer(name), {None, *due.split(" ")}
        for turn in range(most):
            if turn >= least and not left:
                break
            args = []
            for kind in kinds:
                args.append(drawer.draw(kind, args[0].size if args else None))
            word, error = self.first_error(due.split(" "), args)
            if error is None:
                call(*args)
            else:
                self.assert_error(error, call, *args)
            left.discard(word)
        self.assertEqual(left, set())

    def first_error(self, due, args):
        """The first word of those due that asks for an error, and the error."""
        for word in due:
            error = CHECKS[word](args)
            if error is not None:
                return word, error
        return None, None

    def test_the_first_error_that_is_due(self):
        for line in CALLS.strip().split("\n"):
            with self.subTest(line):
                self.check_call(line)

    def test_bonds_are_what_the_checks_take_them_for(self):
        for family in chosen_families((4,), 3):
            marks = {mark[:2] for mark in true_marks(family)}
            told = {
                (x, y) for x in range(4) for y in range(x + 1, 4) for lot in Family.everything(4)
                if not_bonded(family, lot, x, y) is None
            }
            self.assertEqual(marks, told)
