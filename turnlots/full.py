"""Holes of families, families filled, and what reach says of them. All functions take any family."""

from turnlots.bases import independent_row
from turnlots.families import Family
from turnlots.masks import inside_row, lot_from, ordered_masks
from turnlots.met import reach
from turnlots.reaches import all_pairs


def held_masks(family):
    """The masks of the lots of things with a lot of the family within them and one around them, in
    the order of the lots.
    """
    within_one = independent_row(family.size, family.lots)
    # to be around a lot is to be within one when all things are turned
    turned_within = independent_row(family.size, family.contrary().lots)
    whole = (1 << family.size) - 1
    return [
        mask for mask in ordered_masks(family.size) if within_one[mask] and turned_within[whole ^ mask]
    ]


def hole(family):
    """The first hole, None if there is none."""
    inside = inside_row(family)
    for mask in held_masks(family):
        if not inside[mask]:
            return lot_from(mask)
    return None


def is_full(family):
    """True if the family has no hole."""
    return hole(family) is None


def filled(family):
    """The family with all its holes filled."""
    return Family(family.size, [lot_from(mask) for mask in held_masks(family)])


def reach_gap(family):
    """The first signed pair with a reach below that of its two lots alone, None if there is none."""
    for pair in all_pairs(family.size):
        apart = reach(family, (pair.wanted, ())) + reach(family, ((), pair.unwanted))
        if reach(family, pair) < apart:
            return pair.wanted, pair.unwanted
    return None
