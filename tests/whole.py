"""Whole even gated families for the tests of stage 9, and what their points say, word by word."""

import functools
import itertools
import random

from tests.helpers import every_lot, gated_families, plus
from turnlots.breaks import is_gated
from turnlots.even import Web, is_even
from turnlots.families import Family
from turnlots.pairing import pairs_up
from turnlots.partings import hangs_together
from turnlots.skews import skew_family


@functools.lru_cache(maxsize=None)
def whole_of(size):
    """All whole even gated families of a size up to 4."""
    return tuple(family for family in gated_families(size) if is_even(family) and hangs_together(family))


def random_skew(size, chooser, links):
    """The lots whose Pfaffian is not 0, for a table with at most this many entries other than 0."""
    rows = [[0] * size for _ in range(size)]
    for x, y in chooser.sample(list(itertools.combinations(range(size), 2)), links):
        rows[x][y] = chooser.choice((-1, 1, 1, 2))
        rows[y][x] = -rows[x][y]
    return skew_family(size, rows)


def random_net(size, chooser, links):
    """The lots that pair up in a web with this many links."""
    web = Web(size, chooser.sample(list(itertools.combinations(range(size), 2)), links))
    return Family(size, [lot for lot in every_lot(size) if pairs_up(web, lot)])


def glued_lots_of(left, p, right, q):
    """The lots of the glue of (left, p) and (right, q): point 122."""
    first = [x for x in range(left.size) if x != p]
    second = [y for y in range(right.size) if y != q]
    return sorted(
        (*[k for k, x in enumerate(first) if x in lot], *[len(first) + k for k, y in enumerate(second) if y in row])
        for lot in left for row in right if (p in lot) == (q in row)
    )


def true_glue(left, p, right, q):
    return Family(left.size + right.size - 2, glued_lots_of(left, p, right, q))


@functools.lru_cache(maxsize=None)
def larger_whole(sizes=(5, 6), each=10):
    """A row of larger whole even gated families: glues, nets, skew families and the three sorts, turned."""
    chooser = random.Random(19)
    found = []
    for size in sizes:
        lots = every_lot(size)
        row = [Family(size, [lot for lot in lots if len(lot) % 2]), Family.sized(size, 1, 1)]
        row += [Family.sized(size, 2, 2), Family.sized(size, size // 2, size // 2)]
        for _ in range(each):
            links = chooser.randint(size - 1, 2 * size - 3)
            row += [random_skew(size, chooser, links), random_net(size, chooser, links)]
            left = chooser.choice(whole_of(4) if size > 5 else whole_of(3))
            right = chooser.choice(whole_of(4))
            row.append(true_glue(left, chooser.randrange(left.size), right, chooser.randrange(4)))
        found += [family ^ chooser.choice(lots) for family in row if hangs_together(family)]
    return tuple(found)


def whole_families():
    """All whole even gated families of sizes 1 to 4, and larger ones."""
    for size in (1, 2, 3, 4):
        yield from whole_of(size)
    yield from larger_whole()


def renumbered_by(family, lot):
    """The family with the things of the lot first and the others behind them, each in their order."""
    order = [*sorted(lot), *(x for x in range(family.size) if x not in lot)]
    return Family(family.size, [tuple(sorted(order.index(x) for x in row)) for row in family])


def cut_lots(size):
    """All lots that have two things or more, as the lots of the other things have."""
    return [lot for lot in every_lot(size) if 2 <= len(lot) <= size - 2]


def true_is_glued(family, lot):
    """The last line of point 124: lots that are alike in parity within the lot can be mixed."""
    inside = set(family.lots)
    return all(
        plus(set(one) & set(lot), set(other) - set(lot)) in inside
        for one, other in itertools.product(family.lots, family.lots)
        if (len(set(one) & set(lot)) - len(set(other) & set(lot))) % 2 == 0
    )


def not_whole_ones():
    """Families that are not gated, gated and not even, or even and gated and not whole, of size 4."""
    return [
        Family.of(4, (), (0, 1, 2), (3,)), Family.of(4, (0, 1, 2, 3), ()), Family.everything(4),
        Family.sized(4, 1, 2), Family.of(4, (0,), (1,)), Family.of(4, (2,)), Family.of(2, (0,), (1,)) * Family.of(2, (), (0, 1)),
    ]


def is_whole_even(family):
    return is_gated(family) and is_even(family) and hangs_together(family)


def glued_row(size, chooser):
    """A whole even gated family of the size, glued of small pieces, its things in any order and turned."""
    small = [*whole_of(3), *whole_of(4)[::5], Family.sized(4, 2, 2), Family.sized(5, 2, 2)]
    family = chooser.choice(small)
    while family.size < size:
        more = chooser.choice([one for one in small if family.size + one.size - 2 <= size])
        family = true_glue(family, chooser.randrange(family.size), more, chooser.randrange(more.size))
    order = chooser.sample(range(size), size)
    mixed = Family(size, [tuple(sorted(order[x] for x in lot)) for lot in family])
    return mixed ^ chooser.sample(range(size), size // 2)


@functools.lru_cache(maxsize=None)
def tree_families(sizes=(7, 7, 7, 7, 7, 8, 8), seed=23):
    """Larger families with trees of several pieces, always the same ones."""
    chooser = random.Random(seed)
    firm = Family.sized(4, 2, 2)
    return (true_glue(firm, 3, firm, 0), *(glued_row(size, chooser) for size in sizes))
