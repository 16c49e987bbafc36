"""The lift, which makes a family even by one new thing, and lots by their parity."""

from turnlots.checks import check_number
from turnlots.errors import BadNumber, NoLot, TooMany
from turnlots.families import Family
from turnlots.small import forget


def lift(family):
    """The family with a new last thing put into each lot with an odd number of things."""
    if family.size == 10:
        raise TooMany("things")
    new = (family.size,)
    return Family(family.size + 1, [lot + new if len(lot) & 1 else lot for lot in family.lots])


def drop_last(family):
    """The family with its last thing forgotten."""
    return forget(family, family.size - 1)


def lots_alike(family, parity):
    """The list of the lots of the family with this parity of their numbers of things."""
    return [lot for lot in family.lots if len(lot) & 1 == parity]


def parity_lots(family, parity):
    """The Family of the lots with an even (0) or odd (1) number of things."""
    if check_number(parity, "parity", 0) > 1:
        raise BadNumber("parity")
    lots = lots_alike(family, parity)
    if not lots:
        raise NoLot()
    return Family(family.size, lots)


def parity_split(family):
    """The Families of the even and of the odd lots, a tuple, with None for one without a lot."""
    halves = [lots_alike(family, parity) for parity in (0, 1)]
    return tuple([Family(family.size, lots) if lots else None for lots in halves])
