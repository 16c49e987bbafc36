"""Lots as integers: bit x of the mask of a lot is 1 exactly if the lot contains the thing x.

The functions of this file check nothing.
"""


def mask_of(lot):
    """The mask of a lot."""
    mask = 0
    for thing in lot:
        mask = mask | (1 << thing)
    return mask


def lot_from(mask):
    """The lot of a mask, an ascending tuple."""
    return tuple([thing for thing in range(mask.bit_length()) if (mask >> thing) & 1])


def lots_from(masks):
    """The list of the lots of the masks, ascending."""
    return sorted([lot_from(mask) for mask in masks])


def ordered_masks(size):
    """The masks of all lots of size things, in the order of the lots."""
    masks = [0]
    for thing in reversed(range(size)):
        # the lots that begin with this thing stand before all that begin with a greater one
        masks = [0] + [mask | (1 << thing) for mask in masks] + masks[1:]
    return masks


def mask_sums(numbers):
    """The list of the sums of the numbers of the things of all lots, by their masks."""
    sums = [0]
    for number in numbers:
        sums = sums + [part + number for part in sums]
    return sums


def thing_counts(size):
    """The list of the numbers of things of all lots, by their masks."""
    return mask_sums([1 for _ in range(size)])


def family_masks(family):
    """The masks of the lots of a family, in the order of the lots."""
    return [mask_of(lot) for lot in family.lots]


def inside_row(family):
    """The list that says of each mask if the family contains its lot."""
    inside = [False for _ in range(1 << family.size)]
    for mask in family_masks(family):
        inside[mask] = True
    return inside


def depth_row(family):
    """The list of the depths of all lots, by their masks."""
    # no gap is greater than the size, so it serves as "not reached yet"
    depths = [0 if inside else family.size for inside in inside_row(family)]
    for thing in range(family.size):
        bit = 1 << thing
        # a gap is a sum over the things, so one round for each thing is enough
        depths = [min(depth, depths[mask ^ bit] + 1) for mask, depth in enumerate(depths)]
    return depths


def contains_one(mask, parts):
    """True if one of the masks parts is a subset of mask."""
    for part in parts:
        if part & mask == part:
            return True
    return False
