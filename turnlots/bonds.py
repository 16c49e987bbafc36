"""Bonds: rivals and mates, seen at the lots just outside. All functions take any family."""

from turnlots.checks import check_thing, check_two, lot_of
from turnlots.errors import BadSort, NotBonded
from turnlots.masks import inside_row, lot_from, mask_of, ordered_masks
from turnlots.wishes import wish_for


def is_bonded(inside, mask, x, y):
    """True if the two things are bonded at the lot with the mask."""
    return not inside[mask] and inside[mask ^ (1 << x)] and inside[mask ^ (1 << y)]


def bond_sort(mask, x, y):
    """The sort that a bond of the two things at the lot with the mask has."""
    return "rivals" if (mask >> x) & 1 == (mask >> y) & 1 else "mates"


def bond_lots(family, x, y, *, sort="both"):
    """The list of all lots of things at which x and y have a bond of the sort."""
    check_two(x, y, family.size)
    if sort not in ("rivals", "mates", "both"):
        raise BadSort(sort)
    inside = inside_row(family)
    return [
        lot_from(mask) for mask in ordered_masks(family.size)
        if is_bonded(inside, mask, x, y) and sort in ("both", bond_sort(mask, x, y))
    ]


def are_rivals(family, x, y):
    """True if x and y have a bond of rivals at some lot."""
    return len(bond_lots(family, x, y, sort="rivals")) > 0


def are_mates(family, x, y):
    """True if x and y have a bond of mates at some lot."""
    return len(bond_lots(family, x, y, sort="mates")) > 0


def are_bonded(family, x, y):
    """True if x and y are rivals or mates."""
    return len(bond_lots(family, x, y)) > 0


def bonds(family):
    """The list of the tuples of two bonded things, whether they are rivals, and whether mates."""
    found = []
    for x in range(family.size):
        for y in range(x + 1, family.size):
            rivals, mates = are_rivals(family, x, y), are_mates(family, x, y)
            if rivals or mates:
                found.append((x, y, rivals, mates))
    return found


def other_things(family, thing):
    """The list of the things of the family that are not the given one of them."""
    check_thing(thing, family.size)
    return [other for other in range(family.size) if other != thing]


def rivals_of(family, thing):
    """The tuple of the rivals of the thing."""
    return tuple([other for other in other_things(family, thing) if are_rivals(family, thing, other)])


def mates_of(family, thing):
    """The tuple of the mates of the thing."""
    return tuple([other for other in other_things(family, thing) if are_mates(family, thing, other)])


def showing_wish(family, lot, x, y):
    """The Wish at which the bond of x and y at the lot shows in the critical wish of x."""
    row = lot_of(lot, family.size)
    check_two(x, y, family.size)
    if not is_bonded(inside_row(family), mask_of(row), x, y):
        raise NotBonded(x, y)
    values = [8 for _ in range(family.size)]
    values[x] = 0
    values[y] = 1
    return wish_for(row, values)
