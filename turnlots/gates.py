"""Nearest lots, gates, least lots and steps. All functions take any family."""

from turnlots.checks import lot_of
from turnlots.errors import NotInside
from turnlots.masks import contains_one, family_masks, lot_from, lots_from, mask_of, thing_counts


def check_inside(family, lot):
    """Raises NotInside if the family does not contain the lot, an ascending tuple."""
    if not family.has(lot):
        raise NotInside(lot)


def inner_two(family, inner, other):
    """Two lots of the family as ascending tuples."""
    one = lot_of(inner, family.size)
    two = lot_of(other, family.size)
    check_inside(family, one)
    check_inside(family, two)
    return one, two


def nearest_masks(family, target):
    """The masks of the nearest lots to the lot with the mask target."""
    counts = thing_counts(family.size)
    masks = family_masks(family)
    depth = min([counts[mask ^ target] for mask in masks])
    return [mask for mask in masks if counts[mask ^ target] == depth]


def least_of(masks, counts):
    """Those of the masks of which no other one is a subset; counts are the numbers of things."""
    least = []
    for mask in sorted(masks, key=lambda row: counts[row]):
        # a smaller subset of this mask stands before it, and so does a least one
        if not contains_one(mask, least):
            least.append(mask)
    return least


def step_masks(family, inner, target):
    """The masks of the lots of one step from inner towards target."""
    counts = thing_counts(family.size)
    return [
        mask for mask in family_masks(family)
        if counts[mask ^ inner] in (1, 2) and (mask ^ inner) & ~(target ^ inner) == 0
    ]


def nearest(family, lot):
    """The list of the nearest lots to lot."""
    return lots_from(nearest_masks(family, mask_of(lot_of(lot, family.size))))


def gate(family, lot, inner):
    """The first gate between lot and the lot inner of the family, None if there is none."""
    row = lot_of(lot, family.size)
    end = lot_of(inner, family.size)
    check_inside(family, end)
    apart = mask_of(row) ^ mask_of(end)
    for mask in nearest_masks(family, mask_of(row)):
        if (mask ^ mask_of(row)) & ~apart == 0:
            return lot_from(mask)
    return None


def least_lots(family, lot):
    """The list of the least lots at lot."""
    target = mask_of(lot_of(lot, family.size))
    apart = [mask ^ target for mask in family_masks(family)]
    return lots_from([mask ^ target for mask in least_of(apart, thing_counts(family.size))])


def checked_way(family, inner, lot):
    """The masks of inner, a lot of the family, and of lot."""
    start = lot_of(inner, family.size)
    target = lot_of(lot, family.size)
    check_inside(family, start)
    return mask_of(start), mask_of(target)


def can_step(family, inner, lot):
    """The list of the lots that one step from inner towards lot reaches."""
    start, target = checked_way(family, inner, lot)
    return lots_from(step_masks(family, start, target))


def walk_step(family, reached, target):
    """The mask of the next lot of a straight walk, None at its end."""
    counts = thing_counts(family.size)
    steps = step_masks(family, reached, target)
    for count in (2, 1):
        for mask in steps:
            if counts[mask ^ reached] == count:
                return mask
    return None


def steps_toward(family, inner, lot):
    """Yields the lots of one straight walk from inner towards lot, inner first."""
    reached, target = checked_way(family, inner, lot)
    while reached is not None:
        yield lot_from(reached)
        reached = walk_step(family, reached, target)
