"""Glued and strong lots of a whole even gated family, and what shows that a lot is not glued."""

from turnlots.even import web_at
from turnlots.gates import nearest_masks
from turnlots.glue import is_glued_at, needs_whole_even, whole_cut
from turnlots.lots import checked_lots, others_of
from turnlots.masks import family_masks, inside_row, lot_from, mask_of, ordered_masks, thing_counts


def is_glued(family, lot):
    """True if the lot is glued in the family."""
    return is_glued_at(family, mask_of(whole_cut(family, lot)))


def uneven_things(web, within, outside):
    """The first x, y, u and v, x and u within, y and v outside, such that x is linked to v and u to y
    and x is not linked to y; None if there are none.
    """
    for x in within:
        linked = [v for v in outside if (x, v) in web]
        for y in outside:
            linked_back = [u for u in within if (u, y) in web]
            if linked and linked_back and y not in linked:
                return x, y, linked_back[0], linked[0]
    return None


def uneven_lot(family, lot):
    """The first lot F and the first things x, y, u and v that show that not all or nothing of the lot
    is linked to what is outside; None if the lot is glued.
    """
    row = whole_cut(family, lot)
    for inner in family.lots:
        found = uneven_things(web_at(family, inner), row, others_of(row, family.size))
        if found is not None:
            return (inner,) + found
    return None


def far_cut(family, lot):
    """The first lot of things T and the first two nearest lots to it that are apart from it in numbers
    of things of the lot that differ by 2 or more; None if the lot is glued.
    """
    part = mask_of(whole_cut(family, lot))
    counts = thing_counts(family.size)
    for target in ordered_masks(family.size):
        near = [(mask, counts[(mask ^ target) & part]) for mask in nearest_masks(family, target)]
        for one, count in near:
            far = [other for other, more in near if abs(more - count) >= 2]
            if far:
                return lot_from(target), lot_from(one), lot_from(far[0])
    return None


def mixed_lot(family, lot):
    """The first two lots that are alike in parity within the lot although the first one within it and
    the second one outside it make no lot of the family; None if the lot is glued.
    """
    part = mask_of(whole_cut(family, lot))
    inside = inside_row(family)
    counts = thing_counts(family.size)
    masks = family_masks(family)
    for one in masks:
        for other in masks:
            alike = counts[one & part] & 1 == counts[other & part] & 1
            if alike and not inside[(one & part) | (other & ~part)]:
                return lot_from(one), lot_from(other)
    return None


def glued_masks(family):
    """The masks of the glued lots that contain the thing 0, in the order of the lots."""
    needs_whole_even(family)
    counts = thing_counts(family.size)
    cuts = [mask for mask in ordered_masks(family.size) if 2 <= counts[mask] <= family.size - 2]
    return [mask for mask in cuts if mask & 1 and is_glued_at(family, mask)]


def is_crossing(one, other, whole):
    """True if the lots with the two masks cross; whole is the mask of all things."""
    return 0 not in (one & other, one & ~other, other & ~one, whole & ~(one | other))


def glued_lots(family):
    """The list of the glued lots that contain the thing 0."""
    return [lot_from(mask) for mask in glued_masks(family)]


def strong_lots(family):
    """The list of the strong lots that contain the thing 0."""
    glued = glued_masks(family)
    whole = (1 << family.size) - 1
    # what crosses a lot crosses its complement, too: the glued lots with the thing 0 are enough
    return [
        lot_from(mask) for mask in glued if not any([is_crossing(mask, other, whole) for other in glued])
    ]


def crosses(one, other, size):
    """True if the two lots of things 0 to size - 1 cross."""
    rows = checked_lots([one, other], size)
    return is_crossing(mask_of(rows[0]), mask_of(rows[1]), (1 << size) - 1)
