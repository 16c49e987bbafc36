"""Nets: the families of all lots that pair up in a web."""

from turnlots.bases import put_together
from turnlots.checks import lot_of
from turnlots.errors import NotWhole
from turnlots.even import is_even, web_at
from turnlots.gates import check_inside
from turnlots.glue import cut_lot
from turnlots.lots import others_of
from turnlots.masks import inside_row, mask_of
from turnlots.pairing import greatest_row, paired_family, paired_masks


def net_family(web):
    """The net of the web."""
    return paired_family(web)


def missed(web, lot):
    """The tuple of the things of the lot with which some greatest pairing within it has no link."""
    row = lot_of(lot, web.size)
    greatest = greatest_row(web)
    mask = mask_of(row)
    return tuple([x for x in row if greatest[mask ^ (1 << x)] == greatest[mask]])


def odd_parts(web, lot):
    """The tuple of the parts into which the links between missed things divide these."""
    things = missed(web, lot)
    links = [(x, y) for x, y in web.links if x in things and y in things]
    return tuple([part for part in put_together(web.size, links) if part[0] in things])


def reached_from(web, lot):
    """The tuple of the things outside the lot that are linked to a missed thing of it."""
    things = missed(web, lot)
    return tuple([
        y for y in others_of(lot, web.size) if any([(x, y) in web for x in things])
    ])


def all_linked(web, things):
    """True if each two of the things are linked."""
    return all([(x, y) in web for x in things for y in things if x != y])


def net_glued(web, lot):
    """True if the lot is glued in the net of the web, told by the links alone."""
    row = cut_lot(lot, web.size)
    parts = web.web_parts()
    if len(parts) > 1:
        raise NotWhole(parts[0])
    others = others_of(row, web.size)
    ends = [x for x in row if any([(x, y) in web for y in others])]
    far_ends = [y for y in others if any([(x, y) in web for x in row])]
    if not all([(x, y) in web for x in ends for y in far_ends]):
        return False
    return 1 in (len(ends), len(far_ends)) or (all_linked(web, ends) and all_linked(web, far_ends))


def is_net(family, row):
    """True if the family turned by its lot row is the net of the web there."""
    if not is_even(family):
        return False
    inside = inside_row(family)
    masks = paired_masks(web_at(family, row))
    turn = mask_of(row)
    return len(masks) == len(family.lots) and all([inside[mask ^ turn] for mask in masks])


def is_net_at(family, inner):
    """True if the family turned by its lot inner is the net of the web there."""
    row = lot_of(inner, family.size)
    check_inside(family, row)
    return is_net(family, row)


def net_at(family):
    """The first lot at which the family is turned into the net of the web there, None if there is none."""
    for lot in family.lots:
        if is_net(family, lot):
            return lot
    return None
