"""Depth tables and the four rules that tell which of them belong to gated families."""

from turnlots.checks import check_number, check_size, is_int, is_list
from turnlots.errors import BadTable, BrokenRule
from turnlots.families import Family
from turnlots.masks import depth_row, lot_from, ordered_masks


def depth_table(family):
    """The depths of all lots of things, in the order of the lots."""
    depths = depth_row(family)
    return tuple([depths[mask] for mask in ordered_masks(family.size)])


def check_entries(table):
    """Raises BadTable for the first entry that is not an integer or is below 0."""
    for place, entry in enumerate(table):
        if not is_int(entry) or entry < 0:
            raise BadTable(place)


def checked_row(size, table):
    """The entries of a depth table by the masks of the lots."""
    check_size(size)
    if not is_list(table):
        raise BadTable(-1)
    if len(table) != 1 << size:
        raise BadTable(-2)
    check_entries(table)
    row = [0 for _ in table]
    for mask, entry in zip(ordered_masks(size), table):
        row[mask] = entry
    return row


def step_breach(size, row, mask):
    """The things of the first breach of rule 1 at the lot, None if there is none."""
    for x in range(size):
        if abs(row[mask ^ (1 << x)] - row[mask]) > 1:
            return (x,)
    return None


def down_breach(size, row, mask):
    """The things of the breach of rule 2 at the lot, None if there is none."""
    if row[mask] == 0 or min([row[mask ^ (1 << x)] for x in range(size)]) < row[mask]:
        return None
    return ()


def pair_breach(size, row, mask):
    """The things of the first breach of rule 3 at the lot, None if there is none."""
    here = row[mask]
    # only things that do not lower alone can break the rule together
    still = [x for x in range(size) if row[mask ^ (1 << x)] >= here]
    for x in still:
        for y in still:
            if x < y and row[mask ^ (1 << x) ^ (1 << y)] < here:
                return x, y
    return None


def swap_breach(size, row, mask):
    """The things of the first breach of rule 4 at the lot, None if there is none."""
    low = row[mask] - 2
    lowering = [y for y in range(size) if row[mask ^ (1 << y)] < row[mask]]
    for x in range(size):
        for z in range(x + 1, size):
            both = mask ^ (1 << x) ^ (1 << z)
            for y in lowering:
                # with y in the place of the one or of the other thing
                others = [row[both ^ (1 << thing) ^ (1 << y)] for thing in (x, z)]
                if row[both] <= low and y != x and y != z and min(others) > low:
                    return x, z, y
    return None


def breach_at(rule, size, row, mask):
    """The things of the first breach of the rule at the lot, None if there is none."""
    if rule == 1:
        return step_breach(size, row, mask)
    if rule == 2:
        return down_breach(size, row, mask)
    if rule == 3:
        return pair_breach(size, row, mask)
    return swap_breach(size, row, mask)


def first_breach(size, row):
    """The first breach of a row of entries by the masks of the lots, None if there is none."""
    masks = ordered_masks(size)
    for rule in (1, 2, 3, 4):
        for mask in masks:
            things = breach_at(rule, size, row, mask)
            if things is not None:
                return rule, lot_from(mask), things
    return None


def broken_rule(size, table):
    """The first breach of a depth table, None if there is none."""
    return first_breach(size, checked_row(size, table))


def is_depth(size, table):
    """True if the depth table has no breach."""
    return broken_rule(size, table) is None


def family_of_depths(size, table):
    """The family of the lots with the entry 0 in a depth table without a breach."""
    breach = broken_rule(size, table)
    if breach is not None:
        raise BrokenRule(breach[0], breach[1])
    masks = ordered_masks(size)
    return Family(size, [lot_from(mask) for mask, entry in zip(masks, table) if entry == 0])


def lessened(table, number):
    """The table, of any length, lessened by the number."""
    if not is_list(table):
        raise BadTable(-1)
    check_entries(table)
    check_number(number, "number", 0)
    return tuple([max(entry - number, 0) for entry in table])
