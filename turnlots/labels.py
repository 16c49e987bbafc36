"""Tables of labels: the bases at each lot of things, and the family of such a table."""

from turnlots.bases import bases_at
from turnlots.breaks import needs_gated
from turnlots.checks import check_size, is_list, is_lot
from turnlots.errors import BadEdge, BadTable
from turnlots.families import Family
from turnlots.masks import lot_from, mask_of, ordered_masks, thing_counts


def labels_of(family):
    """The table of labels of a gated family."""
    needs_gated(family)
    return [bases_at(family, lot_from(mask)) for mask in ordered_masks(family.size)]


def exchange_break(masks, size):
    """The first of the masks, the first other one for it, and the first thing of the one that no
    thing of the other can replace; None if they exchange as bases do.

    The masks are different and all of one number of things.
    """
    inside = {mask: True for mask in masks}
    for one in masks:
        others = [y for y in range(size) if not (one >> y) & 1]
        # for each thing of the one: itself, and those that can stand in its place
        instead = {
            x: (1 << x) | mask_of([y for y in others if (one ^ (1 << x) ^ (1 << y)) in inside])
            for x in lot_from(one)
        }
        for two in masks:
            for thing in instead:
                if not two & instead[thing]:
                    return one, two, thing
    return None


def is_label(row, size):
    """True if the row is the list of the bases of a matroid, in any order."""
    if not is_list(row) or len(row) == 0 or not all([is_lot(lot, size) for lot in row]):
        return False
    masks = [mask_of(lot) for lot in row]
    counts = thing_counts(size)
    if len(set(masks)) < len(masks) or len({counts[mask] for mask in masks}) > 1:
        return False
    return exchange_break(masks, size) is None


def fit_down(upper, lower, bit):
    """True if the masks lower are those of upper with the thing, the thing taken out."""
    return sorted([mask ^ bit for mask in upper if mask & bit]) == lower


def fits(one, other, bit):
    """True if the labels at two lots, both as sorted masks, are as the edge of the thing asks."""
    down = any([(mask & bit) > 0 for mask in one])
    up = any([(mask & bit) > 0 for mask in other])
    if down and up:
        return False
    if down:
        return fit_down(one, other, bit)
    return fit_down(other, one, bit) if up else one == other


def family_of_labels(size, rows):
    """The family of a table of labels."""
    check_size(size)
    if not is_list(rows):
        raise BadTable(-1)
    if len(rows) != 1 << size:
        raise BadTable(-2)
    for place, row in enumerate(rows):
        if not is_label(row, size):
            raise BadTable(place)
    order = ordered_masks(size)
    labels = {mask: sorted([mask_of(lot) for lot in row]) for mask, row in zip(order, rows)}
    for mask in order:
        for thing in range(size):
            bit = 1 << thing
            if not mask & bit and not fits(labels[mask], labels[mask | bit], bit):
                raise BadEdge(lot_from(mask), thing)
    return Family(size, [lot_from(mask) for mask in order if labels[mask] == [0]])
