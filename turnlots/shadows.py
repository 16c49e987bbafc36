"""The matroid above a full family, families cut by size, and sizes of lots."""

from turnlots.breaks import needs_gated
from turnlots.checks import check_any_number
from turnlots.errors import NoLot, NotFull, TooMany
from turnlots.families import Family
from turnlots.full import hole
from turnlots.lots import all_lots


def size_range(family):
    """The least and the greatest number of things of a lot."""
    sizes = [len(lot) for lot in family.lots]
    return min(sizes), max(sizes)


def is_one_size(family):
    """True if all lots have the same number of things."""
    least, greatest = size_range(family)
    return least == greatest


def matroid_above(family):
    """The full gated family with its lots filled up to one size by new things behind its own."""
    least, greatest = size_range(family)
    new = greatest - least
    if family.size + new > 10:
        raise TooMany("things")
    needs_gated(family)
    found = hole(family)
    if found is not None:
        raise NotFull(found)
    more = [tuple([family.size + thing for thing in lot]) for lot in all_lots(new)]
    return Family(family.size + new, [
        lot + rest for lot in family.lots for rest in more if len(lot + rest) == greatest
    ])


def cut_to(family, low, high):
    """The Family of the lots of low to high things."""
    check_any_number(low, "low")
    check_any_number(high, "high")
    lots = [lot for lot in family.lots if low <= len(lot) <= high]
    if not lots:
        raise NoLot()
    return Family(family.size, lots)
