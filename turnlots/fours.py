"""Opposite lots, and tests of whether an even family is gated."""

from turnlots.breaks import first_alone
from turnlots.even import needs_even
from turnlots.gates import nearest_masks
from turnlots.labels import exchange_break
from turnlots.masks import inside_row, lot_from, lots_from, mask_of, mask_sums, ordered_masks


def separate_lots(size, count):
    """The list of all tuples of the mask of a lot of things and a lot of count other things, in order."""
    rows = [(mask, lot_from(mask)) for mask in ordered_masks(size)]
    wanted = [(mask, lot) for mask, lot in rows if len(lot) == count]
    return [(outer, lot) for outer, _ in rows for mask, lot in wanted if not outer & mask]


def whole_pairs(inside, outer, lot):
    """One mask of each whole pair of the opposite lots that outer and the parts of the lot make."""
    whole = outer | mask_of(lot)
    # without the last thing, so that each pair comes once
    parts = mask_sums([1 << thing for thing in lot[:-1]])
    return [outer | part for part in parts if inside[outer | part] and inside[whole ^ part]]


def first_lone(family, count):
    """The first two lots of things T and Q, Q of count things, such that exactly one pair of opposite
    lots is whole; None if there are none.
    """
    inside = inside_row(family)
    for outer, lot in separate_lots(family.size, count):
        if len(whole_pairs(inside, outer, lot)) == 1:
            return lot_from(outer), lot
    return None


def lone_four(family):
    """The first two lots of things T and Q, Q of four things, such that exactly one pair of opposite
    lots is whole in an even family; None if there are none.
    """
    needs_even(family)
    return first_lone(family, 4)


def far_alone(family):
    """The first two lots of the family that are alone and have a gap of 6 or more."""
    return first_alone(family, 6)


def base_break(family):
    """The first lot of things, the first two lots of what nearest lots are apart from it in, and the
    first thing that cannot be exchanged there; None if there are none.
    """
    for outer in ordered_masks(family.size):
        bases = lots_from([near ^ outer for near in nearest_masks(family, outer)])
        found = exchange_break([mask_of(base) for base in bases], family.size)
        if found is not None:
            one, other, thing = found
            return lot_from(outer), lot_from(one), lot_from(other), thing
    return None
