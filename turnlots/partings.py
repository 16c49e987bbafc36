"""How a family falls into parts that have nothing to do with each other."""

from turnlots.bases import put_together
from turnlots.bonds import bonds
from turnlots.breaks import needs_gated
from turnlots.checks import lot_of
from turnlots.errors import BadLot, NotParted, NotWhole
from turnlots.lots import others_of
from turnlots.masks import depth_row, family_masks, lot_from, mask_of, ordered_masks, thing_counts
from turnlots.small import dropped_rows


def parting_lot(family, lot):
    """The lot as an ascending tuple, if it is neither empty nor the lot of all things."""
    row = lot_of(lot, family.size)
    if len(row) in (0, family.size):
        raise BadLot(-1)
    return row


def is_parting(masks, part):
    """True if each lot within part goes together with each lot outside it, for all of the masks."""
    # there are as many pairs of such lots as masks exactly if each pair makes one of them
    return len({mask & part for mask in masks}) * len({mask & ~part for mask in masks}) == len(masks)


def parted_by(family, lot):
    """True if the lot parts the family."""
    return is_parting(family_masks(family), mask_of(parting_lot(family, lot)))


def finest(family):
    """The tuple of the parts of the family."""
    masks = family_masks(family)
    whole = (1 << family.size) - 1
    # if a lot parts, then so does the rest: the lots with the thing 0 are enough
    partings = [part for part in range(1, whole, 2) if is_parting(masks, part)]
    parts = []
    for thing in range(family.size):
        part = whole
        for mask in partings:
            part = part & (mask if (mask >> thing) & 1 else ~mask)
        parts.append(lot_from(part))
    return tuple(sorted(set(parts)))


def chains(family):
    """The tuple of the chains of the family."""
    return put_together(family.size, [(x, y) for x, y, _, _ in bonds(family)])


def hangs_together(family):
    """True if no lot parts the family."""
    return len(finest(family)) == 1


def needs_whole(family):
    """Raises NotWhole with the first part if some lot parts the family."""
    parts = finest(family)
    if len(parts) > 1:
        raise NotWhole(parts[0])


def split_by(family, lot):
    """The two Families of what is in the lot and of what is outside, for a lot that parts."""
    row = parting_lot(family, lot)
    if not parted_by(family, row):
        raise NotParted(row)
    rest = others_of(row, family.size)
    return dropped_rows(family, family.lots, rest), dropped_rows(family, family.lots, row)


def wedge(family, lot):
    """The first wedge for the lot in a gated family, None if there is none."""
    part = mask_of(parting_lot(family, lot))
    needs_gated(family)
    masks = family_masks(family)
    depths = depth_row(family)
    counts = thing_counts(family.size)
    for target in ordered_masks(family.size):
        if depths[target] > 0:
            near = [mask for mask in masks if counts[mask ^ target] == depths[target]]
            within = [mask for mask in near if (mask ^ target) & ~part == 0]
            outside = [mask for mask in near if (mask ^ target) & part == 0]
            if within and outside:
                return lot_from(target), lot_from(within[0]), lot_from(outside[0])
    return None
