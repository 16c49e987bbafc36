"""What the tests share: families to ask about, and the words of DOC.md taken literally.

Nothing here is clever: each function says again what the document defines, with plain tuples.
"""

import functools
import itertools
import random
import unittest

from turnlots.breaks import is_gated
from turnlots.errors import LotsError
from turnlots.families import Family


class Case(unittest.TestCase):
    def assert_error(self, expected, call, *args, **more):
        """The call raises an error of just this class with just these attributes."""
        with self.assertRaises(LotsError) as caught:
            call(*args, **more)
        error = caught.exception
        self.assertIs(type(error), type(expected))
        # repr tells True from 1 and a list from a tuple
        self.assertEqual(repr(vars(error)), repr(vars(expected)))

    def assert_same(self, answer, expected):
        """Equal, and of the same kinds inside: repr tells True from 1 and a list from a tuple."""
        self.assertEqual(repr(answer), repr(expected))

    def assert_new(self, call, *args):
        """Each answer is new, inner lists included."""
        first = call(*args)
        kept = repr(first)
        spoil(first)
        self.assertEqual(repr(call(*args)), kept)


def spoil(value):
    """Changes every list and dict within a value."""
    if isinstance(value, dict):
        for inner in list(value.values()):
            spoil(inner)
        value.clear()
        value["spoiled"] = 1
    elif isinstance(value, (list, tuple)):
        for inner in value:
            spoil(inner)
        if isinstance(value, list):
            value.append("spoiled")


def every_lot(size):
    """All lots of size things, ascending as tuples."""
    things = range(size)
    return sorted(lot for many in range(size + 1) for lot in itertools.combinations(things, many))


def plus(one, other):
    return tuple(sorted(set(one) ^ set(other)))


def gap_of(one, other):
    return len(plus(one, other))


def between(lot, one, other):
    return set(plus(lot, one)) <= set(plus(other, one))


def family_by(size, number):
    """The family of the lots at the places of the digits 1 of the number."""
    return Family(size, [lot for place, lot in enumerate(every_lot(size)) if number >> place & 1])


def every_family(size, step=1):
    """All families of the size, or each step-th one of them."""
    for number in range(1, 1 << (1 << size), step):
        yield family_by(size, number)


def small_families():
    """All families of sizes 1 to 3."""
    for size in (1, 2, 3):
        yield from every_family(size)


def chosen_families(sizes=(4, 5, 6), each=8, seed=7):
    """A row of larger families, gated or not, always the same one."""
    chooser = random.Random(seed)
    for size in sizes:
        lots = every_lot(size)
        for turn in range(each):
            many = chooser.choice([1, 2, 3, size, len(lots) // 2, len(lots) - 2, len(lots)])
            yield Family(size, chooser.sample(lots, many))
        yield from gated_row(size, chooser)


def gated_row(size, chooser=None):
    """Gated families of one size that are not of one kind only, turned and joined."""
    chooser = chooser or random.Random(size)
    lots = every_lot(size)
    yield Family(size, lots)
    yield Family(size, [lot for lot in lots if len(lot) % 2 == 1])
    yield Family.sized(size, size // 2, size // 2) ^ chooser.choice(lots)
    yield Family.sized(size, 1, size - 1) ^ chooser.choice(lots)
    some = Family(1, [()])
    for thing in range(1, size):
        some = some * Family.of(1, *[[()], [(0,)], [(), (0,)]][chooser.randrange(3)])
    for _ in range(3):
        lot = chooser.choice(lots)
        some = some + Family.of(size, lot, plus(lot, chooser.sample(range(size), min(2, size))))
        yield some


def is_break(family, one, other, thing):
    """True if the thing has no partner for the two lots: point 6, word by word."""
    things = plus(one, other)
    inside = set(family.lots)
    return thing in things and not any(plus(one, {thing, y}) in inside for y in things)


def all_breaks(family):
    """All breaks, ascending."""
    return [
        (one, other, thing)
        for one in family.lots for other in family.lots
        for thing in plus(one, other) if is_break(family, one, other, thing)
    ]


def true_depth(family, lot):
    return min(gap_of(lot, other) for other in family.lots)


def true_nearest(family, lot):
    least = true_depth(family, lot)
    return [other for other in family.lots if gap_of(lot, other) == least]


def true_gates(family, lot, inner):
    return [near for near in true_nearest(family, lot) if between(near, lot, inner)]


def true_least(family, lot):
    return [
        one for one in family.lots
        if not any(other != one and between(other, lot, one) for other in family.lots)
    ]


def just_outside(family):
    return [lot for lot in every_lot(family.size) if true_depth(family, lot) == 1]


def true_box(family, one, other):
    return [lot for lot in family.lots if between(lot, one, other)]


def are_alone(family, one, other):
    return one != other and true_box(family, one, other) == sorted([one, other])


@functools.lru_cache(maxsize=None)
def gated_families(size):
    """All gated families of the size. That is_gated tells them is tested for itself."""
    return tuple(family for family in every_family(size) if is_gated(family))


def gated_sample():
    """All gated families of sizes 1 to 3, some of size 4 and some larger ones."""
    for size in (1, 2, 3):
        yield from gated_families(size)
    yield from gated_families(4)[::60]
    for size in (5, 6):
        yield from gated_row(size)


def every_even_family(size):
    """All families of the size whose lots are alike in parity."""
    for parity in (0, 1):
        lots = [lot for lot in every_lot(size) if len(lot) % 2 == parity]
        for number in range(1, 1 << len(lots)):
            yield Family(size, [lot for place, lot in enumerate(lots) if number >> place & 1])


def some_even_families(sizes=(5, 6), each=6, seed=3):
    """A row of larger even families, gated or not, always the same one."""
    chooser = random.Random(seed)
    for size in sizes:
        for parity in (0, 1):
            lots = [lot for lot in every_lot(size) if len(lot) % 2 == parity]
            for many in (1, 2, 3, len(lots) // 2, len(lots) - 3, len(lots) - 1):
                yield Family(size, chooser.sample(lots, many))
        for family in gated_row(size, chooser):
            if len({len(lot) % 2 for lot in family}) == 1:
                yield family
                for _ in range(each):
                    yield one_lot_less(family, chooser)


def one_lot_less(family, chooser):
    """The family without one of its lots; a family of one lot as it is."""
    lots = list(family.lots)
    if len(lots) > 1:
        lots.pop(chooser.randrange(len(lots)))
    return Family(family.size, lots)


def some_gated(sizes=(1, 2, 3), step=60):
    """All gated families of the sizes, and each step-th one of size 4."""
    for size in sizes:
        yield from gated_families(size)
    yield from gated_families(4)[::step]


def apart_places(size, many):
    """All tuples of a lot of things and a lot of this many other things, ascending."""
    return [
        (outer, lot) for outer in every_lot(size) for lot in every_lot(size)
        if len(lot) == many and not set(outer) & set(lot)
    ]


def whole_pairs_of(family, outer, lot, parity=None):
    """The number of whole pairs of opposite lots, of one parity if one is given: points 97 and 109."""
    lots, found = set(family.lots), set()
    for many in range(len(lot) + 1):
        for part in itertools.combinations(lot, many):
            one, other = plus(outer, part), plus(outer, plus(lot, part))
            if {one, other} <= lots and parity in (None, len(one) % 2):
                found.add(frozenset((one, other)))
    return len(found)
