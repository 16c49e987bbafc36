"""Signed pairs, and how much of them the lots of a family meet."""

from turnlots.checks import check_any_thing, check_size, is_lot, lot_of, pair_of, unbounded_lot
from turnlots.errors import BadPair


class Pair:
    """A signed pair of two lots, the wanted and the unwanted things. A Pair never changes."""

    __slots__ = ("wanted", "unwanted")

    def __init__(self, wanted, unwanted):
        wanted, unwanted = pair_of((wanted, unwanted), None)
        self.wanted = wanted
        self.unwanted = unwanted

    @staticmethod
    def full(lot, size):
        """The pair of all size things that stands for the lot."""
        row = lot_of(lot, check_size(size))
        return Pair(row, [thing for thing in range(size) if thing not in row])

    def __len__(self):
        return len(self.wanted + self.unwanted)

    def __invert__(self):
        """The pair with the two lots exchanged."""
        return Pair(self.unwanted, self.wanted)

    def __and__(self, other):
        """The things wanted in both pairs, and those unwanted in both."""
        wanted = [thing for thing in self.wanted if thing in other.wanted]
        return Pair(wanted, [thing for thing in self.unwanted if thing in other.unwanted])

    def __or__(self, other):
        """The things wanted in one of the pairs, and those unwanted in one."""
        wanted = sorted(set(self.wanted) | set(other.wanted))
        # a thing that comes into both of these lots is contrary in the two pairs
        return Pair(wanted, sorted(set(self.unwanted) | set(other.unwanted)))

    def __contains__(self, lot):
        return is_lot(lot, None) and agreeing(self, lot) == len(self)

    def __eq__(self, other):
        return isinstance(other, Pair) and self.wanted == other.wanted and self.unwanted == other.unwanted

    def turned(self, lot):
        """The pair with the signs of the things of the lot changed."""
        turn = unbounded_lot(lot)
        return Pair(turned_lot(self.wanted, self.unwanted, turn), turned_lot(self.unwanted, self.wanted, turn))

    def without(self, thing):
        """The pair with the thing taken off, if it is in it."""
        check_any_thing(thing)
        return Pair([x for x in self.wanted if x != thing], [x for x in self.unwanted if x != thing])

    def with_wanted(self, thing):
        """The pair with the thing put in as wanted."""
        check_new(self, thing)
        return Pair(self.wanted + (thing,), self.unwanted)

    def with_unwanted(self, thing):
        """The pair with the thing put in as unwanted."""
        check_new(self, thing)
        return Pair(self.wanted, self.unwanted + (thing,))


def turned_lot(lot, other, turn):
    """What the one lot of a pair is after the pair was turned, other being its other lot."""
    return [thing for thing in lot if thing not in turn] + [thing for thing in other if thing in turn]


def check_new(pair, thing):
    """Raises an error if the thing cannot be put into the pair."""
    check_any_thing(thing)
    if thing in pair.wanted or thing in pair.unwanted:
        raise BadPair(thing)


def two_lots(pair):
    """The wanted and the unwanted lot of a Pair; anything else as it is."""
    return (pair.wanted, pair.unwanted) if isinstance(pair, Pair) else pair


def signed_pair(pair, size):
    """The Pair of a signed pair of things 0 to size - 1."""
    wanted, unwanted = pair_of(two_lots(pair), check_size(size))
    return Pair(wanted, unwanted)


def agreeing(pair, lot):
    """The number of things at which the lot agrees with the pair."""
    wanted = [thing for thing in pair.wanted if thing in lot]
    return len(wanted) + len([thing for thing in pair.unwanted if thing not in lot])


def met(family, pair):
    """The greatest number of things of the pair that a lot of the family meets."""
    asked = signed_pair(pair, family.size)
    return max([agreeing(asked, lot) for lot in family.lots])


def reach(family, pair):
    """The greatest number of wanted things less unwanted things that a lot of the family has."""
    asked = signed_pair(pair, family.size)
    return met(family, asked) - len(asked.unwanted)


def met_lots(family, pair):
    """The list of the lots of the family that meet the most."""
    asked = signed_pair(pair, family.size)
    most = met(family, asked)
    return [lot for lot in family.lots if agreeing(asked, lot) == most]


def lot_met(pair, lot):
    """The number of things of the pair at which the lot agrees, both of them without a size."""
    wanted, unwanted = pair_of(two_lots(pair), None)
    return agreeing(Pair(wanted, unwanted), unbounded_lot(lot))


class Meter:
    """What is met in one family, as an object that is called with a pair."""

    def __init__(self, family):
        self.family = family

    def __call__(self, pair):
        return met(self.family, pair)


def is_kept(family, pair):
    """True if some lot of the family agrees with the pair at all its things."""
    return keeper(family, pair) is not None


def keeper(family, pair):
    """The first lot of the family that keeps the pair, None if it is refused."""
    asked = signed_pair(pair, family.size)
    for lot in family.lots:
        if agreeing(asked, lot) == len(asked):
            return lot
    return None
