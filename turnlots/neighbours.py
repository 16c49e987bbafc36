"""Neighbours: two families of one size whose depths and nearest lots go together."""

from turnlots.errors import OtherSize
from turnlots.masks import contains_one, depth_row, family_masks, lot_from, ordered_masks, thing_counts


def kept_between(near, others):
    """True if each of the masks near has one of the masks others as a subset."""
    return all([contains_one(mask, others) for mask in near])


def clash(family, other):
    """The first lot of things where the rule of neighbours is not kept, None if there is none."""
    if other.size != family.size:
        raise OtherSize(other.size)
    counts = thing_counts(family.size)
    masks, others = family_masks(family), family_masks(other)
    depths, other_depths = depth_row(family), depth_row(other)
    for target in ordered_masks(family.size):
        # what each lot and the target are apart in; what is nearest has as many things as the depth
        apart = [mask ^ target for mask in masks]
        other_apart = [mask ^ target for mask in others]
        near = [mask for mask in apart if counts[mask] == depths[target]]
        other_near = [mask for mask in other_apart if counts[mask] == other_depths[target]]
        change = other_depths[target] - depths[target]
        is_kept = (
            (change == 0 and near == other_near)
            or (change == 1 and kept_between(other_near, apart))
            or (change == -1 and kept_between(near, other_apart))
        )
        if not is_kept:
            return lot_from(target)
    return None


def are_neighbours(family, other):
    """True if the rule of neighbours is kept at every lot of things."""
    return clash(family, other) is None
