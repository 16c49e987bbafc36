"""Peaks: the lots of things of a gated family at which no thing raises."""

from turnlots.breaks import needs_gated
from turnlots.checks import lot_of
from turnlots.depths import raises
from turnlots.errors import NotInside
from turnlots.gates import nearest
from turnlots.masks import depth_row, lot_from, lots_from, mask_of


def first_raising(depths, size, mask):
    """The least thing that raises at the lot, None if there is none."""
    for thing in range(size):
        if depths[mask ^ (1 << thing)] > depths[mask]:
            return thing
    return None


def is_peak(family, lot):
    """True if the lot is a peak."""
    row = lot_of(lot, family.size)
    needs_gated(family)
    return raises(family, row) == ()


def peaks(family):
    """The list of the peaks."""
    needs_gated(family)
    depths = depth_row(family)
    masks = range(1 << family.size)
    return lots_from([mask for mask in masks if first_raising(depths, family.size, mask) is None])


def peak_above(family, lot):
    """The peak that is reached by exchanging the least thing that raises, again and again."""
    mask = mask_of(lot_of(lot, family.size))
    needs_gated(family)
    depths = depth_row(family)
    thing = first_raising(depths, family.size, mask)
    while thing is not None:
        mask = mask ^ (1 << thing)
        thing = first_raising(depths, family.size, mask)
    return lot_from(mask)


def peak_lots(family, peak):
    """The list of the lots of the family that the bases at a peak lead to."""
    row = lot_of(peak, family.size)
    if raises(family, row):
        raise NotInside(row)
    needs_gated(family)
    # peak + base is a nearest lot, and each nearest lot is of this kind
    return nearest(family, row)
