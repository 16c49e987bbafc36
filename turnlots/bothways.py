"""Families whose exchanges work at both lots at once. All functions take any family."""

from turnlots.breaks import common_partners, lowering_mask
from turnlots.errors import NotBothWays
from turnlots.even import web_at
from turnlots.fours import first_lone, separate_lots, whole_pairs
from turnlots.gates import inner_two, least_of
from turnlots.lots import apart
from turnlots.masks import family_masks, inside_row, lot_from, lots_from, mask_of, thing_counts
from turnlots.pairing import first_blocks


def partner_rows(family):
    """For each lot of the family, by its mask: for each thing the mask of the things that are its
    partners for this lot and each lot that is apart from it in both.
    """
    inside = inside_row(family)
    lowering = [lowering_mask(family.size, inside, mask) for mask in range(len(inside))]
    rows = {}
    for mask in family_masks(family):
        steps = [(mask ^ (1 << x), 1 << x) for x in range(family.size)]
        # x itself leads back from the step to the lot, so it counts only if the step is a lot, too
        rows[mask] = [lowering[step] if inside[step] else lowering[step] ^ bit for step, bit in steps]
    return rows


def one_way(family):
    """The first two lots and the first thing that has no common partner for them, None if the family
    works both ways.
    """
    masks = family_masks(family)
    rows = partner_rows(family)
    things = [lot_from(mask) for mask in range(1 << family.size)]
    for place, one in enumerate(masks):
        # what has no common partner for two lots has none for them in the other order
        for two in masks[place + 1:]:
            for x in things[one ^ two]:
                if not rows[one][x] & rows[two][x] & (one ^ two):
                    return lot_from(one), lot_from(two), x
    return None


def works_both_ways(family):
    """True if there always is a common partner."""
    return one_way(family) is None


def needs_both(family):
    """Raises NotBothWays with what has no common partner if the family does not work both ways."""
    found = one_way(family)
    if found is not None:
        one, other, thing = found
        raise NotBothWays(one, other, thing)


def both_partners(family, inner, other, thing):
    """The list of the common partners of the thing for the two lots of the family."""
    return common_partners(family, inner, other, thing)


def pairs_and_single(family, inner, other):
    """The first blocks of the two lots of the family, None if there are none."""
    one, two = inner_two(family, inner, other)
    singles = [x for x in range(family.size) if family.has(apart(one, (x,), family.size))]
    return first_blocks(web_at(family, one), singles, apart(one, two, family.size))


def lone_three(family):
    """The first two lots of things T and Q, Q of three things, such that exactly one pair of opposite
    lots is whole; None if there are none.
    """
    return first_lone(family, 3)


def lone_four_by(family):
    """The first two lots of things T and Q, Q of four things, and the first parity such that exactly
    one pair of opposite lots of this parity is whole; None if there are none.
    """
    inside = inside_row(family)
    counts = thing_counts(family.size)
    for outer, lot in separate_lots(family.size, 4):
        parities = [counts[mask] & 1 for mask in whole_pairs(inside, outer, lot)]
        for parity in (0, 1):
            if parities.count(parity) == 1:
                return lot_from(outer), lot, parity
    return None


def far_by(family):
    """The first two lots with an odd gap of 5 or more that are alone, or with an even gap of 6 or
    more that are alone in their parity; None if there are none.
    """
    masks = family_masks(family)
    counts = thing_counts(family.size)
    for inner in masks:
        differences = [mask ^ inner for mask in masks if mask != inner]
        alike = [mask for mask in differences if counts[mask] & 1 == 0]
        far = [mask for mask in least_of(differences, counts) if counts[mask] in (5, 7, 9)]
        far = far + [mask for mask in least_of(alike, counts) if counts[mask] >= 6]
        if far:
            # these lots are greater than inner: a lesser one would have been found before
            return lot_from(inner), lots_from([mask ^ inner for mask in far])[0]
    return None


def fewest_steps(family, inner, other):
    """The fewest steps that lead from the one lot of the family to the other, None if none do."""
    one, two = inner_two(family, inner, other)
    inside = inside_row(family)
    turns = [mask for mask, count in enumerate(thing_counts(family.size)) if count in (1, 2)]
    steps = {mask_of(one): 0}
    queue = [mask_of(one)]
    while queue:
        mask = queue.pop(0)
        for turn in turns:
            if inside[mask ^ turn] and (mask ^ turn) not in steps:
                steps[mask ^ turn] = steps[mask] + 1
                queue.append(mask ^ turn)
    return steps.get(mask_of(two))
