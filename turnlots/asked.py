"""Lots and depths found by asking which signed pairs a family keeps."""

from turnlots.book import book_order
from turnlots.checks import is_int, lot_of
from turnlots.errors import BadNumber, OtherSize
from turnlots.met import Pair, is_kept
from turnlots.reaches import all_pairs
from turnlots.wishes import wish_of


class Asker:
    """A family that is asked which signed pairs it keeps, and the number of asks."""

    def __init__(self, family):
        self.family = family
        self._asks = 0

    @property
    def asked(self):
        """The number of asks so far."""
        return self._asks

    def ask(self, pair):
        """True if some lot of the family keeps the pair."""
        answer = is_kept(self.family, pair)
        self._asks += 1
        return answer

    def ask_inside(self, lot):
        """True if the family contains the lot."""
        row = lot_of(lot, self.family.size)
        return self.ask(Pair.full(row, self.family.size))


def check_asker(asker, size):
    """Raises BadNumber unless size is the size of the family of the asker."""
    if not is_int(size) or size != asker.family.size:
        raise BadNumber("size")


def with_sign(pair, thing, is_wanted):
    """The pair with the thing put in, wanted or unwanted."""
    return pair.with_wanted(thing) if is_wanted else pair.with_unwanted(thing)


def settle(asker, signs):
    """The Pair of all things settled as the first of their signs that goes with those before.

    signs is a list of tuples of a thing and whether it is first asked as wanted.
    """
    settled = Pair((), ())
    for thing, is_wanted in signs:
        first = with_sign(settled, thing, is_wanted)
        settled = first if asker.ask(first) else with_sign(settled, thing, not is_wanted)
    return settled


def find_lot(asker, size):
    """A lot of the family, found by asking for each thing in turn."""
    check_asker(asker, size)
    return settle(asker, [(thing, True) for thing in range(size)]).wanted


def find_best(asker, wish):
    """The lot in which the book ends, found by asking."""
    numbers = wish_of(wish, asker.family.size).numbers
    return settle(asker, [(thing, numbers[thing] > 0) for thing in book_order(numbers)]).wanted


def find_depth(asker, lot, size):
    """The number of things at which the lot must be left, found by asking for each thing in turn."""
    check_asker(asker, size)
    row = lot_of(lot, size)
    settled = Pair((), ())
    for thing in range(size):
        more = with_sign(settled, thing, thing in row)
        if asker.ask(more):
            settled = more
    return size - len(settled)


def told_apart(family, other):
    """The first Pair that exactly one of the two families keeps, None if they are equal."""
    if other.size != family.size:
        raise OtherSize(other.size)
    for pair in all_pairs(family.size):
        if is_kept(family, pair) != is_kept(other, pair):
            return pair
    return None
