"""What the web at one lot tells of an even gated family."""

from turnlots.checks import check_two, lot_of
from turnlots.even import needs_gated_even, web_at
from turnlots.gates import check_inside
from turnlots.lots import apart
from turnlots.pairing import paired_family


def inner_even(family, inner):
    """The lot of the family as an ascending tuple, if the family is gated and even."""
    row = lot_of(inner, family.size)
    check_inside(family, row)
    needs_gated_even(family)
    return row


def first_web(family):
    """The web at the first lot of the family, if the family is gated and even."""
    needs_gated_even(family)
    return web_at(family, family.lots[0])


def parts_at(family, inner):
    """The tuple of the parts of the web at the lot."""
    return web_at(family, inner_even(family, inner)).web_parts()


def is_turned_matroid(family):
    """True if the family, turned by some lot, has lots of one size alone."""
    return first_web(family).sides() is not None


def turning_at(family, inner):
    """The sum of the lot and the first side of the web there, None if that web has no side."""
    row = inner_even(family, inner)
    side = web_at(family, row).sides()
    return None if side is None else apart(row, side, family.size)


def turned_sizes(family, lot):
    """The tuple of the different sizes of the lots of any family, turned by the lot."""
    turned = family ^ lot
    return tuple(sorted({len(row) for row in turned.lots}))


def told_by_web(family):
    """True if the web at the first lot has no even ring."""
    return first_web(family).even_ring_in() is None


def fullest_at(family, inner):
    """The fullest family of the web at the lot."""
    row = inner_even(family, inner)
    return paired_family(web_at(family, row)) ^ row


def step_web(family, inner, x, y):
    """The web at the lot with x and y exchanged."""
    row = lot_of(inner, family.size)
    check_two(x, y, family.size)
    check_inside(family, row)
    target = apart(row, (x, y), family.size)
    check_inside(family, target)
    needs_gated_even(family)
    return web_at(family, target)
