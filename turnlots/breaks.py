"""Partners and breaks, and other tests of whether a family is gated. All functions take any family."""

from turnlots.checks import check_thing, lot_of
from turnlots.errors import BadNumber, BadThing, NotGated
from turnlots.gates import check_inside, least_lots, least_of, nearest_masks
from turnlots.masks import contains_one, family_masks, inside_row, lot_from, lots_from, mask_of
from turnlots.masks import ordered_masks, thing_counts


def partners(family, inner, other, thing):
    """The list of the partners of thing for the lots inner and other of the family."""
    one = lot_of(inner, family.size)
    two = lot_of(other, family.size)
    apart = mask_of(one) ^ mask_of(two)
    if not (apart >> check_thing(thing, family.size)) & 1:
        raise BadThing(thing)
    check_inside(family, one)
    check_inside(family, two)
    inside = inside_row(family)
    # "or" takes the exchange of a thing with itself for the exchange of this thing alone
    return [y for y in lot_from(apart) if inside[mask_of(one) ^ ((1 << thing) | (1 << y))]]


def common_partners(family, inner, other, thing):
    """The list of the partners of thing for inner and other that are also those for other and inner."""
    ways = partners(family, inner, other, thing)
    back = partners(family, other, inner, thing)
    return [y for y in ways if y in back]


def lowering_mask(size, inside, mask):
    """The mask of the things whose exchange at the lot leads to a lot of the family."""
    return mask_of([thing for thing in range(size) if inside[mask ^ (1 << thing)]])


def ungated_rows(family):
    """For each lot T just outside, by its mask: the masks of all lots G of the family such that
    no thing that lowers at T is in T + G, in the order of the lots.

    These are the breaks: for a lot F of the family with T = F + x, the things of F + G without x
    are those of T + G, and y is a partner of x for F and G exactly if it is one of them and lowers
    at T. So F, G and x make a break exactly if F is T + x for a thing x that lowers at T and G is
    in the row of T.
    """
    masks = family_masks(family)
    inside = inside_row(family)
    rows = {}
    for outer in range(len(inside)):
        lowering = lowering_mask(family.size, inside, outer)
        if lowering and not inside[outer]:
            rows[outer] = [mask for mask in masks if not (mask ^ outer) & lowering]
    return rows


def first_break(family, rows):
    """The first break among those of the rows, rows as ungated_rows gives them or a part of them."""
    for inner in family.lots:
        found = []
        for thing in range(family.size):
            outer = mask_of(inner) ^ (1 << thing)
            if rows.get(outer):
                found.append((lot_from(rows[outer][0]), thing))
        if found:
            other, thing = min(found)
            return inner, other, thing
    return None


def find_break(family):
    """The first break, None if there is none."""
    return first_break(family, ungated_rows(family))


def is_gated(family):
    """True if the family is gated."""
    return find_break(family) is None


def needs_gated(family):
    """Raises NotGated with the first break if the family is not gated."""
    found = find_break(family)
    if found is not None:
        inner, other, thing = found
        raise NotGated(inner, other, thing)


def gateless(family):
    """The first lot of things and the first lot of the family for it that have no gate."""
    masks = family_masks(family)
    for outer in ordered_masks(family.size):
        nearest = [mask ^ outer for mask in nearest_masks(family, outer)]
        for mask in masks:
            if not contains_one(mask ^ outer, nearest):
                return lot_from(outer), lot_from(mask)
    return None


def unequal(family):
    """The first lot of things with least lots of different gaps, the first least lot there, and
    the first one with another gap."""
    # a lot of the family without a gate has a least lot before it that is no nearest one
    found = gateless(family)
    if found is None:
        return None
    outer = found[0]
    least = least_lots(family, outer)
    gaps = [len(set(lot) ^ set(outer)) for lot in least]
    others = [lot for lot, gap in zip(least, gaps) if gap != gaps[0]]
    return outer, least[0], others[0]


def first_alone(family, gap):
    """The first two lots of the family that are alone and have this gap or a greater one."""
    masks = family_masks(family)
    counts = thing_counts(family.size)
    for inner in masks:
        least = least_of([mask ^ inner for mask in masks if mask != inner], counts)
        far = [difference ^ inner for difference in least if counts[difference] >= gap]
        if far:
            # these lots are greater than inner: a lesser one would have been found before
            return lot_from(inner), lots_from(far)[0]
    return None


def alone_far(family):
    """The first two lots of the family that are alone and have a gap of 5 or more."""
    return first_alone(family, 5)


def near_break(family):
    """The first break whose gap is 3 or 4, None if there is none."""
    counts = thing_counts(family.size)
    rows = ungated_rows(family)
    # the gap of the two lots of a break is one more than that of T and G
    near = {
        outer: [mask for mask in rows[outer] if counts[mask ^ outer] in (2, 3)]
        for outer in rows
    }
    return first_break(family, near)


def least_break_gap(family):
    """The least gap of the two lots of a break of a family that has one."""
    counts = thing_counts(family.size)
    rows = ungated_rows(family)
    return min([counts[mask ^ outer] + 1 for outer in rows for mask in rows[outer]])


def break_sort(family, inner, other, thing):
    """The gap, at most 5, of a break such that no break of the family has a smaller gap."""
    if partners(family, inner, other, thing):
        raise BadNumber("gap")
    gap = len(set(inner) ^ set(other))
    if gap > least_break_gap(family):
        raise BadNumber("gap")
    return min(gap, 5)


def outside_neighbours(family, lot):
    """The number of the lots lot + x, x a thing of the family, that the family does not contain."""
    mask = mask_of(lot_of(lot, family.size))
    inside = inside_row(family)
    return len([thing for thing in range(family.size) if not inside[mask ^ (1 << thing)]])
