"""Lots of things 0 to size - 1, and what stands between them."""

from turnlots.checks import check_number, lot_of
from turnlots.errors import BadNumber
from turnlots.masks import lots_from, mask_of, ordered_masks


def checked_lots(lots, size):
    """The lots as ascending tuples, after the size was looked at."""
    check_number(size, "size", 0)
    if size > 10:
        raise BadNumber("size")
    return [lot_of(lot, size) for lot in lots]


def others_of(lot, size):
    """The things 0 to size - 1 that are not in the lot, an ascending tuple. It checks nothing."""
    return tuple([thing for thing in range(size) if thing not in lot])


def apart(one, other, size):
    """The things that are in exactly one of the two lots."""
    one, other = checked_lots([one, other], size)
    return tuple(sorted(set(one) ^ set(other)))


def both(one, other, size):
    """The things that are in both lots."""
    one, other = checked_lots([one, other], size)
    return tuple([thing for thing in one if thing in other])


def less(one, other, size):
    """The things of the first lot that are not in the second one."""
    one, other = checked_lots([one, other], size)
    return tuple([thing for thing in one if thing not in other])


def either(one, other, size):
    """The things that are in one of the two lots or in both."""
    one, other = checked_lots([one, other], size)
    return tuple(sorted(set(one) | set(other)))


def exchanged(lot, things, size):
    """The lot with each of the things exchanged."""
    return apart(lot, things, size)


def gap(one, other, size):
    """The number of things in which the two lots are apart."""
    return len(apart(one, other, size))


def is_between(lot, one, other, size):
    """True if lot is apart from one in nothing but things in which the two are apart."""
    lot, one, other = [mask_of(row) for row in checked_lots([lot, one, other], size)]
    return (lot ^ one) & ~(other ^ one) == 0


def box_lots(one, other, size):
    """The list of all lots of things between the two lots."""
    one, other = [mask_of(row) for row in checked_lots([one, other], size)]
    return lots_from([mask for mask in ordered_masks(size) if (mask ^ one) & ~(other ^ one) == 0])


def all_lots(size):
    """The list of all lots of size things."""
    checked_lots([], size)
    return lots_from(ordered_masks(size))
