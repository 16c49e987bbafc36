"""Depths of all lots of things. All functions take any family."""

from turnlots.checks import check_number, lot_of
from turnlots.masks import depth_row, lots_from, mask_of


def depth_of(family, lot):
    """The depth of the lot."""
    return family.depth(lot)


def changes(family, lot):
    """The list of what the exchange of each thing, in order, adds to the depth of the lot."""
    mask = mask_of(lot_of(lot, family.size))
    depths = depth_row(family)
    return [depths[mask ^ (1 << thing)] - depths[mask] for thing in range(family.size)]


def lowers(family, lot):
    """The tuple of the things that lower at the lot."""
    return tuple([thing for thing, change in enumerate(changes(family, lot)) if change < 0])


def raises(family, lot):
    """The tuple of the things that raise at the lot."""
    return tuple([thing for thing, change in enumerate(changes(family, lot)) if change > 0])


def level_lots(family, level):
    """The list of all lots of things with the depth level."""
    check_number(level, "level", 0)
    return lots_from([mask for mask, depth in enumerate(depth_row(family)) if depth == level])


def deepest(family):
    """The greatest depth of a lot of things."""
    return max(depth_row(family))
